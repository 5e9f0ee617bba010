package entitydiff_test

import (
	"cmp"
	"fmt"
	"slices"
	"strings"
	"testing"

	"testgate/api"
	"testgate/evaluate"
	"testgate/packages"
	"testgate/revision"
)

// TestContents compares All of random points with the contents of all keys: P16.1, and that all others are the same (P16.2).
func TestContents(t *testing.T) {
	d := dice(1)
	keys := universe()
	var changed, kept [8]int
	for n := range 400 {
		a := d.point()
		b := d.changed(a)
		for range n % 3 {
			b = d.changed(b)
		}
		if n%20 == 0 {
			b = d.point()
		}
		got, want := diff(t, a, b), differing(t, a, b, keys)
		if !slices.Equal(got, want) {
			t.Errorf("All of %s and %s: %q instead of %q", brief(a), brief(b), words(got), words(want))
		}
		for _, k := range keys {
			if slices.Contains(want, k) {
				changed[k.Kind]++
			} else {
				kept[k.Kind]++
			}
		}
	}
	if slices.Min(changed[1:]) < 60 || slices.Min(kept[1:]) < 1000 {
		t.Errorf("so many keys of each kind changed: %v; so many did not: %v", changed, kept)
	}
}

// imports returns the packages that files of a package import.
func imports(r api.Revision, pkg string) (l []string) {
	for _, f := range packages.Files(r, pkg) {
		s, _ := packages.Source(r, f.Path)
		l = append(l, s.Imports...)
	}
	return l
}

// reaches tells whether a package has another one in its tree; seen are those that were asked.
func reaches(r api.Revision, from, to string, seen map[string]bool) bool {
	if from == to {
		return true
	}
	seen[from] = true
	return slices.ContainsFunc(imports(r, from), func(pkg string) bool { return !seen[pkg] && reaches(r, pkg, to, seen) })
}

// touched returns the keys that differ if the bytes of files of a package differ that have these paths, but no declaration does.
func touched(r api.Revision, pkg string, at ...string) (l []api.Key) {
	for _, path := range at {
		l = append(l, api.Key{Kind: api.KeyData, A: path})
	}
	for name := range strings.FieldsSeq(pkgs) {
		if pkg != "" && name == pkg {
			l = append(l, api.Key{Kind: api.KeyFiles, A: name})
		}
		if pkg != "" && reaches(r, name, pkg, map[string]bool{}) {
			l = append(l, api.Key{Kind: api.KeyTree, A: name})
		}
	}
	slices.SortFunc(l, func(a, b api.Key) int { return cmp.Or(cmp.Compare(a.Kind, b.Kind), strings.Compare(a.A, b.A)) })
	return l
}

// TestMoves moves source files of random points, and changes comments and blanks in them (P16.2).
func TestMoves(t *testing.T) {
	d := dice(2)
	moved, blank, broken := 0, 0, 0
	for range 80 {
		p := d.point()
		for _, f := range p.r.Files {
			if !revision.IsSource(f.Path) {
				continue
			}
			s, ok := packages.Source(p.r, f.Path)
			if !ok {
				broken++
			}
			other := d.moved(p.r, f)
			to := slices.IndexFunc(other.Files, func(g api.File) bool {
				return !slices.ContainsFunc(p.r.Files, func(f api.File) bool { return f.Path == g.Path })
			})
			if to >= 0 {
				moved++
				want := touched(p.r, s.Package, f.Path, other.Files[to].Path)
				if got := diff(t, p, point{other, p.env}); !slices.Equal(got, want) {
					t.Errorf("%s moved to %s in %s: %q instead of %q", f.Path, other.Files[to].Path, brief(p.r), words(got), words(want))
				}
			}
			bytes := d.blanks(f.Bytes)
			if bytes == f.Bytes {
				continue
			}
			blank++
			want := touched(p.r, s.Package, f.Path)
			if got := diff(t, p, point{put(p.r, f.Path, bytes), p.env}); !slices.Equal(got, want) {
				t.Errorf("blanks of %q become %q in %s: %q instead of %q", f.Bytes, bytes, brief(p.r), words(got), words(want))
			}
		}
	}
	if moved < 200 || blank < 200 || broken < 50 {
		t.Errorf("%d files were moved, and %d have other blanks; %d are broken", moved, blank, broken)
	}
}

// TestTraces runs the tests of random points: where All has no key of the trace, the run is the same on the other side (P16.2).
func TestTraces(t *testing.T) {
	d := dice(3)
	same, others, differ := 0, 0, 0
	for range 300 {
		a := d.point()
		b := d.changed(a)
		all := diff(t, a, b)
		for _, test := range packages.Tests(a.r) {
			word := uint64(d.roll(4))
			before, _ := evaluate.Run(a.r, a.env, word, test)
			after, e := evaluate.Run(b.r, b.env, word, test)
			equal := e == api.OK && fmt.Sprint(before) == fmt.Sprint(after)
			if slices.ContainsFunc(before.Trace, func(k api.Key) bool { return slices.Contains(all, k) }) {
				others++
				if !equal {
					differ++
				}
			} else if same++; !equal {
				t.Errorf("%v is %v at %s and %v at %s, but %q does not touch it", test, before, brief(a), after, brief(b), words(all))
			}
		}
	}
	if same < 300 || others < 50 || differ < 30 {
		t.Errorf("%d runs are not touched, and %d are, of which %d differ", same, others, differ)
	}
}

// TestOnTheWay makes two changes: what differs after both differs after the first one, or between the two. After a revert nothing does (P16.1).
func TestOnTheWay(t *testing.T) {
	d := dice(4)
	for range 100 {
		a := d.point()
		b := d.changed(a)
		c := d.changed(b)
		first, second := diff(t, a, b), diff(t, b, c)
		for _, k := range diff(t, a, c) {
			if !slices.Contains(first, k) && !slices.Contains(second, k) {
				t.Errorf("%v differs between %s and %s, but not on the way", k, brief(a), brief(c))
			}
		}
		if got := diff(t, a, a.copied()); len(got) > 0 {
			t.Errorf("after a revert to %s, %q differ", brief(a), words(got))
		}
	}
}
