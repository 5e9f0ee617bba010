package filediff_test

import (
	"fmt"
	"slices"
	"strings"
	"testing"

	"testgate/api"
	"testgate/filediff"
)

// compareApply checks Apply of changes and Invert (P15.2, P15.3), and returns the error.
func compareApply(t *testing.T, a api.Revision, l []api.Change) api.Errno {
	t.Helper()
	oldA, oldL := copyOf(a), copyOfAll(l)
	r, e := filediff.Apply(a, l)
	want, wantE := wantApply(a, l)
	if !equal(r, want) || e != wantE {
		t.Errorf("Apply of %s to %s: %s, error %d instead of %s, error %d", brief(l), brief(a), brief(r), e, brief(want), wantE)
	}
	back, e := filediff.Invert(a, l)
	var wantBack []api.Change
	if wantE == api.OK {
		wantBack, _ = wantDiff(want, a)
	}
	if !slices.Equal(back, wantBack) || e != wantE {
		t.Errorf("Invert of %s at %s: %s, error %d instead of %s, error %d", brief(l), brief(a), brief(back), e, brief(wantBack), wantE)
	}
	if wantE == api.OK {
		if got, e := filediff.Apply(r, back); !equal(got, a) || e != api.OK {
			t.Errorf("Apply of Invert of %s: %s, error %d instead of %s", brief(l), brief(got), e, brief(a))
		}
	}
	if !equal(a, oldA) || !slices.Equal(l, oldL) {
		t.Errorf("Apply or Invert changes %s or %s", brief(oldA), brief(oldL))
	}
	return wantE
}

func TestApply(t *testing.T) {
	for _, c := range []struct {
		name, a, l, want string
		e                api.Errno
	}{
		{"nothing", "a=1 b=2", "", "a=1 b=2", api.OK}, {"nothing of nothing", "", "", "", api.OK}, {"to the first file", "", "+a=1", "a=1", api.OK}, {"of the last file", "a=1", "-a", "", api.OK},
		{"one of each kind", "b=2 c=3 e=5", "+a=1 -b *c=4 d<e", "a=1 c=4 d=5", api.OK}, {"before, between and behind", "b=2 d=4", "+e=5 +a=1 +c=3", "a=1 b=2 c=3 d=4 e=5", api.OK}, {"the same bytes again", "a=1", "*a=1", "a=1", api.OK}, {"no bytes", "a=1", "*a +b", "a b", api.OK},
		{"removed and added", "a=1", "-a +a=2", "a=2", api.OK}, {"added and removed", "a=1", "+a=2 -a", "a=2", api.OK}, {"over a removed one", "a=1 b=2", "b<a -b", "b=1", api.OK}, {"over a removed one, in the other order", "a=1 b=2", "-b b<a", "b=1", api.OK}, {"a new one at the old path", "a=1", "b<a +a=2", "a=2 b=1", api.OK}, {"a new one first", "a=1", "+a=2 b<a", "a=2 b=1", api.OK},
		{"an exchange", "a=1 b=2", "a<b b<a", "a=2 b=1", api.OK}, {"a chain", "a=1 b=2 c=3", "b<a c<b d<c", "b=1 c=2 d=3", api.OK}, {"a chain from its end", "a=1 b=2 c=3", "d<c c<b b<a", "b=1 c=2 d=3", api.OK}, {"a ring", "a=1 b=2 c=3", "a<b b<c c<a", "a=2 b=3 c=1", api.OK}, {"to itself", "a=1 b=2", "a<a", "a=1 b=2", api.OK},

		{"twice removed", "a=1", "-a -a", "", api.ErrTwice}, {"removed and renamed", "a=1", "-a b<a", "", api.ErrTwice}, {"renamed twice", "a=1", "b<a c<a", "", api.ErrTwice}, {"to itself and away", "a=1", "a<a b<a", "", api.ErrTwice}, {"changed twice", "a=1", "*a=2 *a=2", "", api.ErrTwice}, {"changed and removed", "a=1", "*a=2 -a", "", api.ErrTwice}, {"changed and renamed", "a=1", "b<a *a=2", "", api.ErrTwice},
		{"added twice", "", "+a=1 +a=1", "", api.ErrTwice}, {"added and changed", "a=1", "+a=1 *a=1", "", api.ErrTwice}, {"added and renamed to", "b=1", "+a=1 a<b", "", api.ErrTwice}, {"changed and renamed to", "a=1 b=1", "*a=1 a<b", "", api.ErrTwice}, {"two to one", "a=1 b=1", "c<a c<b", "", api.ErrTwice}, {"far from each other", "a=1 b=2 c=3", "-a *b=3 d<c +e=1 -a", "", api.ErrTwice},
		{"twice, both unknown", "", "-a -a", "", api.ErrTwice}, {"twice, both there", "a=1", "+a=1 +a=1", "", api.ErrTwice}, {"twice, behind an unknown one", "a=1", "-z -a -a", "", api.ErrTwice}, {"twice, behind one over a file", "a=1 b=1", "+b -a -a", "", api.ErrTwice}, {"twice, no path", "", "+A +A", "", api.ErrTwice},

		{"an unknown one is removed", "a=1", "-b", "", api.ErrUnknown}, {"an unknown one is changed", "a=1", "*b=1", "", api.ErrUnknown}, {"an unknown one is renamed", "a=1", "c<b", "", api.ErrUnknown}, {"an unknown one to a file", "a=1", "a<b", "", api.ErrUnknown}, {"an unknown one to itself", "a=1", "b<b", "", api.ErrUnknown}, {"a new one is removed", "a=1", "+b=1 -b", "", api.ErrUnknown}, {"a new one is renamed", "a=1", "+b=1 c<b", "", api.ErrUnknown}, {"a renamed one is removed", "a=1", "b<a -b", "", api.ErrUnknown}, {"no path", "a=1", "-A", "", api.ErrUnknown},
		{"unknown, behind one over a file", "a=1 b=1", "+a=1 -z", "", api.ErrUnknown}, {"unknown, behind a wrong path", "a=1", "+A -z", "", api.ErrUnknown},
		{"over a file", "a=1", "+a=1", "", api.ErrExists}, {"renamed over a file", "a=1 b=2", "b<a", "", api.ErrExists}, {"a chain over a file", "a=1 b=2 c=3", "b<a c<b", "", api.ErrExists}, {"over a file, behind a wrong path", "a=1", "+A +a", "", api.ErrExists},
		{"a wrong path", "a=1", "+A", "", api.ErrInvalid}, {"no path of a new file", "", "+", "", api.ErrInvalid}, {"a wrong new path", "a=1", "a/<a", "", api.ErrInvalid}, {"no new path", "a=1", "<a", "", api.ErrInvalid}, {"a wrong path instead of a file", "a=1", "-a +a//b", "", api.ErrInvalid},
	} {
		a, l := of(c.a), changes(c.l)
		compareApply(t, a, l)
		if r, e := filediff.Apply(a, l); !equal(r, of(c.want)) || e != c.e {
			t.Errorf("Apply, %s: %s, error %d", c.name, brief(r), e)
		}
	}
}

// TestWrongChanges has all kinds with all fields, empty and not, alone and together with each other error.
func TestWrongChanges(t *testing.T) {
	a := of("a=1 b=2")
	others := [][]api.Change{nil, changes("-b"), changes("-z -z"), changes("-z"), changes("+b"), changes("+A")}
	counts := map[api.Errno]int{}
	for kind := -2; kind < 9; kind++ {
		for _, path := range []string{"", "a", "c", "z"} {
			for _, from := range []string{"", "a", "z"} {
				for _, bytes := range []string{"", "3"} {
					x := api.Change{Kind: kind, Path: path, From: from, Bytes: bytes}
					for _, other := range others {
						counts[compareApply(t, a, append(slices.Clone(other), x))]++
						counts[compareApply(t, a, append([]api.Change{x}, other...))]++
					}
				}
			}
		}
	}
	for _, kind := range []int{-1 << 62, 1 << 32, 1<<32 + 1, 1 << 62} {
		if e := compareApply(t, a, []api.Change{{Kind: kind, Path: "c"}}); e != api.ErrInvalid {
			t.Errorf("Apply of a change of the kind %d: error %d", kind, e)
		}
	}
	for _, e := range []api.Errno{api.OK, api.ErrInvalid, api.ErrTwice, api.ErrUnknown, api.ErrExists} {
		if counts[e] < 5 {
			t.Errorf("only %d lists have the error %d", counts[e], e)
		}
	}
}

// TestApplyOfAll has all lists of up to three changes of a few paths, at a few revisions.
func TestApplyOfAll(t *testing.T) {
	all := changes("+a=3 +b=3 +c=3 +Z -a -b -c *a=3 *b=3 *c=3 a<a a<b a<c b<a b<b b<c c<a c<b c<c Z<a")
	for _, s := range []string{"", "a=1", "a=1 b=2", "a=1 b=1 c=2"} {
		var visit func(l []api.Change)
		visit = func(l []api.Change) {
			compareApply(t, of(s), l)
			if len(l) < 3 {
				for _, c := range all {
					visit(append(slices.Clone(l), c))
				}
			}
		}
		visit(nil)
	}
}

// TestOrder checks that the order of changes does not matter, also for errors (P15.4).
func TestOrder(t *testing.T) {
	d := dice(2)
	counts := map[api.Errno]int{}
	for range 1500 {
		paths := 2 + d.roll(12)
		a := d.revision(paths, 3)
		l, _ := filediff.Diff(a, d.revision(paths, 3))
		for range d.roll(3) {
			l = append(l, changes(d.pick("+f00 +f03=1 -f00 -f01 *f01=2 *f02 f03<f00 f00<f04 f09<f01 +F"))...)
		}
		want, wantE := filediff.Apply(a, l)
		counts[compareApply(t, a, l)]++
		for range 6 {
			shuffle(&d, l)
			if r, e := filediff.Apply(a, l); !equal(r, want) || e != wantE {
				t.Errorf("Apply of %s to %s: %s, error %d instead of %s, error %d", brief(l), brief(a), brief(r), e, brief(want), wantE)
			}
		}
	}
	for _, e := range []api.Errno{api.OK, api.ErrInvalid, api.ErrTwice, api.ErrUnknown, api.ErrExists} {
		if counts[e] < 10 {
			t.Errorf("only %d lists have the error %d", counts[e], e)
		}
	}
}

// TestApplyAtLimits has results that are as large as a revision can be, and one too large.
func TestApplyAtLimits(t *testing.T) {
	most := full(api.MaxFiles)
	var turned, exchanged []api.Change
	for i, f := range most.Files {
		turned = append(turned, api.Change{Kind: api.FileRenamed, Path: most.Files[(i+1)%api.MaxFiles].Path, From: f.Path})
		exchanged = append(exchanged, api.Change{Kind: api.FileRemoved, Path: f.Path}, api.Change{Kind: api.FileAdded, Path: "g" + f.Path, Bytes: long})
	}
	var many []api.Change
	for i := range 5000 {
		many = append(many, api.Change{Kind: api.FileAdded, Path: fmt.Sprintf("g%04d", i)})
	}
	for _, c := range []struct {
		name string
		a    api.Revision
		l    []api.Change
		e    api.Errno
	}{
		{"one too many", most, changes("+a"), api.ErrInvalid}, {"one for another", most, changes("+a -f000"), api.OK}, {"two for one", most, changes("+a +b -f000"), api.ErrInvalid}, {"a ring of all", most, turned, api.OK}, {"others instead", most, exchanged, api.OK}, {"others and one more", most, append(slices.Clone(exchanged), many[0]), api.ErrInvalid},
		{"all at once", api.Revision{}, many[:api.MaxFiles], api.OK}, {"all and one", api.Revision{}, many[:api.MaxFiles+1], api.ErrInvalid}, {"far too many", most, many, api.ErrInvalid}, {"far too many, the last one twice", most, append(slices.Clone(many), many[4999]), api.ErrTwice}, {"far too many, one over a file", most, append(slices.Clone(many), changes("+f003")...), api.ErrExists},
		{"the most bytes", of("a=1"), []api.Change{{Kind: api.FileAdded, Path: "b", Bytes: long}, {Kind: api.FileChanged, Path: "a", Bytes: long}}, api.OK}, {"too many new bytes", of("a=1"), []api.Change{{Kind: api.FileAdded, Path: "b", Bytes: long + "x"}}, api.ErrInvalid}, {"too many changed bytes", of("a=1"), []api.Change{{Kind: api.FileChanged, Path: "a", Bytes: long + "x"}}, api.ErrInvalid}, {"too many bytes over a file", of("a=1"), []api.Change{{Kind: api.FileAdded, Path: "a", Bytes: long + "x"}}, api.ErrExists},
		{"the longest path", of("a=1"), changes("+" + longPath), api.OK}, {"a path that is too long", of("a=1"), changes("+" + longPath + "n"), api.ErrInvalid}, {"a new path that is too long", of("a=1"), changes(longPath + "n<a"), api.ErrInvalid}, {"a part that is too long", of("a=1"), changes(part + "n<a"), api.ErrInvalid}, {"the most parts", of("a=1"), changes("b/b/b/b/b/b/b/b<a"), api.OK}, {"too many parts", of("a=1"), changes("b/b/b/b/b/b/b/b/b<a"), api.ErrInvalid},
	} {
		if e := compareApply(t, c.a, c.l); e != c.e {
			t.Errorf("%s: error %d", c.name, e)
		}
	}
}

// TestApplyToBadRevisions has each error of revision.Check, also with changes that have another error or remove the bad file.
func TestApplyToBadRevisions(t *testing.T) {
	for _, bad := range badRevisions() {
		for _, s := range []string{"", "+z=1", "-z -z", "-z", "-a", "-A", "+a"} {
			if e := compareApply(t, bad, changes(s)); e != api.ErrInvalid {
				t.Errorf("Apply of %s to %s: error %d", s, brief(bad), e)
			}
		}
	}
}

// TestChains leads through histories of random revisions, and back (P15.3, P15.4).
func TestChains(t *testing.T) {
	d := dice(3)
	for range 60 {
		start := d.revision(20, 4)
		r, back := start, [][]api.Change{}
		for range 8 {
			l, e := filediff.Diff(r, d.revision(20, 4))
			inverse, f := filediff.Invert(r, l)
			if e != api.OK || f != api.OK {
				t.Fatalf("Diff and Invert of %s: errors %d and %d", brief(r), e, f)
			}
			back = append(back, inverse)
			r, _ = filediff.Apply(r, l)
		}
		for i := len(back) - 1; i >= 0; i-- {
			r, _ = filediff.Apply(r, back[i])
		}
		if !equal(r, start) {
			t.Errorf("the way back from %s leads to %s", brief(start), brief(r))
		}
	}
}

// TestInvert has changes whose inverse is not the list of their inverses.
func TestInvert(t *testing.T) {
	for _, c := range []struct{ a, l, want string }{
		{"a=1", "", ""}, {"a=1", "*a=1", ""}, {"a=1", "-a +a=1", ""}, {"a=1 b=1", "a<b b<a", ""}, {"a=1 b=2", "a<b b<a", "*a=1 *b=2"},
		{"a=1", "-a", "+a=1"}, {"", "+a=1", "-a"}, {"a=1", "*a=2", "*a=1"}, {"a=1", "b<a", "a<b"}, {"a=1", "-a +b=1", "a<b"}, {"a=1 b=1", "-a c<b", "a<c +b=1"}, {"a=1 b=1", "c<b -a +d=1", "a<c b<d"},
	} {
		a, l := of(c.a), changes(c.l)
		compareApply(t, a, l)
		if back, e := filediff.Invert(a, l); !slices.Equal(back, changes(c.want)) || e != api.OK {
			t.Errorf("Invert of %s at %s: %s, error %d", c.l, c.a, brief(back), e)
		}
	}
	if l, e := filediff.Invert(of("a="+strings.Repeat("x", api.MaxBytes+1)), nil); len(l) > 0 || e != api.ErrInvalid {
		t.Errorf("Invert at a bad revision: %s, error %d", brief(l), e)
	}
}
