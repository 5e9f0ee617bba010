package packages_test

import (
	"fmt"
	"math"
	"slices"
	"testing"

	"testgate/api"
	"testgate/packages"
	"testgate/revision"
	"testgate/source"
)

// small is a revision in which p has two files, and the gen g two packages.
func small() api.Revision {
	return of(
		"a.src", "package p; gen \"g\" = 0; func f() = 1; test t = 1;",
		"b/c.src", "package p; func g() = 1; test t = 2; func f(x) = x;",
		"d.src", "package q; test u = 1; gen \"g\" = 3; gen \"a.src\" = 4; test f = 1;",
		"e.src", "package q; test v = ;",
		"f.dat", "package q; test v = 1;",
	)
}

func TestFind(t *testing.T) {
	for _, c := range []struct {
		kind      int
		pkg, name string
		want      api.Entity
	}{
		{api.DeclFunc, "p", "f", api.Entity{Package: "p", Name: "f", Kind: api.DeclFunc, Place: "a.src", Index: 1, Count: 2}}, {api.DeclFunc, "p", "g", api.Entity{Package: "p", Name: "g", Kind: api.DeclFunc, Place: "b/c.src", Count: 1}},
		{api.DeclTest, "p", "t", api.Entity{Package: "p", Name: "t", Kind: api.DeclTest, Place: "a.src", Index: 2, Count: 2}}, {api.DeclTest, "q", "u", api.Entity{Package: "q", Name: "u", Kind: api.DeclTest, Place: "d.src", Count: 1}}, {api.DeclTest, "q", "f", api.Entity{Package: "q", Name: "f", Kind: api.DeclTest, Place: "d.src", Index: 3, Count: 1}},
		{api.DeclGen, "q", "g", api.Entity{Package: "p", Name: "g", Kind: api.DeclGen, Place: "a.src", Count: 2}}, {api.DeclGen, "", "a.src", api.Entity{Package: "q", Name: "a.src", Kind: api.DeclGen, Place: "d.src", Index: 2, Count: 1}}, {api.DeclGen, "no package/", "g", api.Entity{Package: "p", Name: "g", Kind: api.DeclGen, Place: "a.src", Count: 2}},
		{api.DeclFunc, "q", "f", api.Entity{Package: "q", Name: "f", Kind: api.DeclFunc}}, {api.DeclTest, "p", "f", api.Entity{Package: "p", Name: "f", Kind: api.DeclTest}}, {api.DeclTest, "q", "t", api.Entity{Package: "q", Name: "t", Kind: api.DeclTest}}, {api.DeclTest, "q", "v", api.Entity{Package: "q", Name: "v", Kind: api.DeclTest}},
		{api.DeclFunc, "", "f", api.Entity{Name: "f", Kind: api.DeclFunc}}, {api.DeclFunc, "P /", "\xff", api.Entity{Package: "P /", Name: "\xff", Kind: api.DeclFunc}}, {api.DeclTest, "p", "", api.Entity{Package: "p", Kind: api.DeclTest}},
		{api.DeclGen, "p", "f", api.Entity{Name: "f", Kind: api.DeclGen}}, {api.DeclGen, "p", "", api.Entity{Kind: api.DeclGen}}, {api.DeclGen, "p", "/ ", api.Entity{Name: "/ ", Kind: api.DeclGen}},
		{0, "p", "f", api.Entity{Package: "p", Name: "f"}}, {4, "p", "f", api.Entity{Package: "p", Name: "f", Kind: 4}}, {-1, "q", "g", api.Entity{Package: "q", Name: "g", Kind: -1}}, {math.MaxInt, "", "g", api.Entity{Name: "g", Kind: math.MaxInt}}, {math.MinInt, "p", "", api.Entity{Package: "p", Kind: math.MinInt}},
	} {
		if e := packages.Find(small(), c.kind, c.pkg, c.name); e != c.want {
			t.Errorf("Find of %d, %q, %q: %v instead of %v", c.kind, c.pkg, c.name, e, c.want)
		}
	}
}

func TestEntities(t *testing.T) {
	l := packages.Entities(small())
	var got []string
	for _, e := range l {
		got = append(got, fmt.Sprintf("%d %s %s %s:%d %d", e.Kind, e.Package, e.Name, e.Place, e.Index, e.Count))
		if x := packages.Find(small(), e.Kind, e.Package, e.Name); x != e {
			t.Errorf("Find of %v: %v", e, x)
		}
	}
	if want := []string{"1 p f a.src:1 2", "1 p g b/c.src:0 1", "2 p t a.src:2 2", "2 q f d.src:3 1", "2 q u d.src:0 1", "3 q a.src d.src:2 1", "3 p g a.src:0 2"}; !slices.Equal(got, want) {
		t.Errorf("Entities: %q instead of %q", got, want)
	}
	if l := packages.Tests(small()); !slices.Equal(l, []api.Name{{Package: "q", Test: "f"}, {Package: "q", Test: "u"}}) {
		t.Errorf("Tests: %v", l)
	}
}

// TestOrder has packages and names in an order that is not that of the files.
func TestOrder(t *testing.T) {
	r := of("a.src", "package q0; test b = 1; gen \"z\" = 1; func b() = 1; func a_() = 1; func a0() = 1; test a = 1; func a() = 1; gen \"b\" = 1;", "b.src", "package q; test z = 1; func c() = 1; func aa() = 1; gen \"c\" = 1;", "c.src", "package q_; gen \"a/b\" = 1; gen \"a.b\" = 1; test y = 1; gen \"a\" = 1;")
	var got []string
	for _, e := range packages.Entities(r) {
		got = append(got, fmt.Sprint(e.Package, " ", e.Kind, " ", e.Name))
	}
	want := []string{"q 1 aa", "q 1 c", "q 2 z", "q0 1 a", "q0 1 a0", "q0 1 a_", "q0 1 b", "q0 2 a", "q0 2 b", "q_ 2 y", "q_ 3 a", "q_ 3 a.b", "q_ 3 a/b", "q0 3 b", "q 3 c", "q0 3 z"}
	if !slices.Equal(got, want) {
		t.Errorf("Entities: %q instead of %q", got, want)
	}
	if l := packages.Tests(r); !slices.Equal(l, []api.Name{{Package: "q", Test: "z"}, {Package: "q0", Test: "a"}, {Package: "q0", Test: "b"}, {Package: "q_", Test: "y"}}) {
		t.Errorf("Tests: %v", l)
	}
	if l := packages.Names(r); !slices.Equal(l, []string{"q", "q0", "q_"}) {
		t.Errorf("Names: %q", l)
	}
}

// TestDecl asks for all places, indices, kinds and names, also those of declarations that Find does not return.
func TestDecl(t *testing.T) {
	r := small()
	right := 0
	for _, place := range []string{"a.src", "b/c.src", "d.src", "e.src", "f.dat", "g.src", "", "/"} {
		want, is := packages.Source(r, place)
		for _, index := range []int{0, 1, 2, 3, 4, -1, math.MaxInt, math.MinInt} {
			for _, kind := range []int{api.DeclFunc, api.DeclTest, api.DeclGen, 0, 4} {
				for _, name := range []string{"f", "g", "t", "u", "v", "a.src", ""} {
					ok := is && index >= 0 && index < len(want.Decls) && want.Decls[index].Kind == kind && want.Decls[index].Name == name
					for _, e := range []api.Entity{{Package: "p", Count: 1}, {Package: "none", Count: 2}, {Count: -1}} {
						e.Place, e.Index, e.Kind, e.Name = place, index, kind, name
						f, i, got := packages.Decl(r, e)
						if got != ok || ok && (i != index || !source.Same(f, want)) || !ok && (i != 0 || !source.Same(f, api.Source{})) {
							t.Errorf("Decl of %v: %v, %d, %t", e, f, i, got)
						}
					}
					if ok {
						right++
					}
				}
			}
		}
	}
	if right != 10 {
		t.Errorf("%d declarations instead of 10", right)
	}
}

// withoutPlace returns entities of one declaration alone, without their places, and the counts of all.
func withoutPlace(l []api.Entity) (alone []api.Entity, counts []int) {
	for _, e := range l {
		if e.Count == 1 {
			e.Place = ""
			alone = append(alone, e)
		}
		counts = append(counts, e.Count)
	}
	return alone, counts
}

// TestMoves moves source files: P8.4.
func TestMoves(t *testing.T) {
	d := dice(2)
	moved := 0
	for range 300 {
		r := revisionOf(d.drafts())
		for _, f := range r.Files {
			to := d.pick(sourcePaths...)
			m, e := revision.Move(r, f.Path, to)
			if e != api.OK || !revision.IsSource(f.Path) {
				continue
			}
			before, counts := withoutPlace(packages.Entities(r))
			after, newCounts := withoutPlace(packages.Entities(m))
			if !slices.Equal(before, after) || !slices.Equal(counts, newCounts) || !slices.Equal(packages.Tests(r), packages.Tests(m)) || !slices.Equal(packages.Names(r), packages.Names(m)) {
				t.Errorf("%q moved to %s: %v instead of %v", f, to, after, before)
			}
			for _, e := range packages.Entities(r) {
				x := packages.Find(m, e.Kind, e.Package, e.Name)
				if e.Count == 1 && e.Place == f.Path {
					e.Place = to
				}
				if e.Count == 1 && x != e || x.Count != e.Count {
					t.Errorf("%q moved to %s: Find is %v instead of %v", f, to, x, e)
				}
			}
			moved++
		}
	}
	if moved < 300 {
		t.Errorf("only %d files were moved", moved)
	}
}

// TestDataDoNotMatter adds, changes and removes data files: P8.4.
func TestDataDoNotMatter(t *testing.T) {
	d := dice(3)
	for range 300 {
		r := revisionOf(d.drafts())
		changed := r
		for _, path := range dataPaths {
			if d.roll(2) == 0 {
				changed, _ = revision.Put(changed, path, d.pick("", "package p; test t = 1;", "$"))
			} else if m, e := revision.Remove(changed, path); e == api.OK {
				changed = m
			}
		}
		if !slices.Equal(packages.Entities(r), packages.Entities(changed)) || !slices.Equal(packages.Tests(r), packages.Tests(changed)) || !slices.Equal(packages.Names(r), packages.Names(changed)) || !slices.Equal(packages.Broken(r), packages.Broken(changed)) {
			t.Errorf("%q with other data files: %v instead of %v", r, packages.Entities(changed), packages.Entities(r))
		}
		for _, pkg := range pkgs {
			if !slices.Equal(packages.Files(r, pkg), packages.Files(changed, pkg)) {
				t.Errorf("%q with other data files has other files of %s", r, pkg)
			}
		}
	}
}

// TestBreaking breaks each file of some revisions, which is as if it were removed, and mends it again: P8.4.
func TestBreaking(t *testing.T) {
	d := dice(4)
	for range 30 {
		l := d.drafts()
		for i, x := range l {
			if x.data || x.broken {
				continue
			}
			l[i].broken, l[i].bytes = true, d.breaks(x)
			r := revisionOf(l)
			removed, _ := revision.Remove(r, x.path)
			if !slices.Equal(packages.Entities(r), packages.Entities(removed)) || !slices.Equal(packages.Tests(r), packages.Tests(removed)) || !slices.Equal(packages.Names(r), packages.Names(removed)) || !slices.Contains(packages.Broken(r), x.path) || slices.Contains(packages.Broken(removed), x.path) {
				t.Errorf("%q with the broken file %s: %v", r, x.path, packages.Entities(r))
			}
			l[i] = x
		}
		wantEntities(t, revisionOf(l), l)
	}
}
