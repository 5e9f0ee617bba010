package filediff_test

import (
	"slices"
	"testing"

	"testgate/api"
	"testgate/filediff"
)

// compareDiff checks Diff of two revisions, and that Apply leads from a to b with it (P15.1, P15.4).
func compareDiff(t *testing.T, a, b api.Revision) []api.Change {
	t.Helper()
	x, y := copyOf(a), copyOf(b)
	l, e := filediff.Diff(a, b)
	want, wantE := wantDiff(a, b)
	if !slices.Equal(l, want) || e != wantE {
		t.Errorf("Diff of %s and %s: %s, error %d instead of %s, error %d", brief(a), brief(b), brief(l), e, brief(want), wantE)
	}
	if !equal(a, x) || !equal(b, y) {
		t.Errorf("Diff changes %s or %s", brief(x), brief(y))
	}
	if e == api.OK {
		if got, e := filediff.Apply(a, l); !equal(got, b) || e != api.OK {
			t.Errorf("Apply of Diff of %s and %s: %s, error %d", brief(a), brief(b), brief(got), e)
		}
	}
	return l
}

func TestDiff(t *testing.T) {
	for _, c := range []struct{ name, a, b, want string }{
		{"nothing", "", "", ""}, {"no change", "a=1 b=2", "a=1 b=2", ""}, {"the example", "a=1", "b=1", "b<a"}, {"all new", "", "a=1 b", "+a=1 +b"}, {"all gone", "a=1 b", "", "-a -b"},
		{"other bytes", "a=1 b=2 c=3", "a=1 b=4 c=3", "*b=4"}, {"no bytes any more", "a=1", "a", "*a"}, {"bytes for the first time", "a", "a=1", "*a=1"}, {"a longer text", "a=1", "a=11", "*a=11"},
		{"new names", "a=1 b=2", "c=2 d=1", "c<b d<a"}, {"a new name without bytes", "a", "b", "b<a"}, {"a new name and other bytes", "a=1", "b=2", "-a +b=2"}, {"a file takes a place", "a=1 b=2", "b=1", "-a *b=1"}, {"an exchange", "a=1 b=2", "a=2 b=1", "*a=2 *b=1"},
		{"a path that stays is no old one", "a=1 b=1", "a=1 c=1", "c<b"}, {"a copy", "a=1", "a=1 b=1", "+b=1"}, {"a changed file is no old one", "a=1", "a=2 b=1", "*a=2 +b=1"}, {"a changed file is no new one", "a=1 b=2", "b=1", "-a *b=1"},
		{"the first one of two", "b=1 c=1", "a=1", "a<b -c"}, {"the first one of two, behind them", "b=1 c=1", "d=1", "-c d<b"}, {"one for two", "b=1", "a=1 c=1", "a<b +c=1"}, {"two for two", "c=1 d=1", "a=1 b=1", "a<c b<d"}, {"two for two, between", "a=1 d=1", "b=1 c=1", "b<a c<d"}, {"two for three", "a=1 c=1", "b=1 d=1 e=1", "b<a d<c +e=1"}, {"three for two", "a=1 c=1 e=1", "b=1 d=1", "b<a d<c -e"},
		{"two kinds of bytes", "a=1 b=2 c=1 d=2", "e=2 f=1 g=2 h=3", "-c e<b f<a g<d +h=3"}, {"all kinds", "a=1 c=2 e=3 g=4", "b=3 c=9 d=5 g=4", "-a b<e *c=9 +d=5"},
		{"bytewise order", "z=1 z.=1 z/a=1 z_=1 z0=1", "y=1 z.a=1", "y<z -z/a z.a<z. -z0 -z_"}, {"a folder", "a/x=1 a/y=2", "b/x=1 b/y=2", "b/x<a/x b/y<a/y"},
	} {
		a, b := of(c.a), of(c.b)
		slices.SortFunc(a.Files, func(x, y api.File) int { return slices.Compare([]byte(x.Path), []byte(y.Path)) })
		if l := compareDiff(t, a, b); !slices.Equal(sorted(l), sorted(changes(c.want))) {
			t.Errorf("Diff, %s: %s", c.name, brief(l))
		}
	}
}

// sorted returns changes ascending by their paths, which is the order of Diff.
func sorted(l []api.Change) []api.Change {
	l = slices.Clone(l)
	slices.SortFunc(l, func(x, y api.Change) int { return slices.Compare([]byte(x.Path), []byte(y.Path)) })
	return l
}

// TestDiffOfAll has all pairs of revisions with four paths and three kinds of bytes.
func TestDiffOfAll(t *testing.T) {
	all := []api.Revision{{}}
	for _, path := range []string{"a", "b", "c", "d"} {
		for _, r := range all {
			for _, bytes := range []string{"", "1", "2"} {
				all = append(all, api.Revision{Files: append(slices.Clone(r.Files), api.File{Path: path, Bytes: bytes})})
			}
		}
	}
	for _, a := range all {
		for _, b := range all {
			compareDiff(t, a, b)
		}
	}
	if len(all) != 256 {
		t.Errorf("there are %d revisions", len(all))
	}
}

// TestDiffOfMany has random revisions with up to MaxFiles files.
func TestDiffOfMany(t *testing.T) {
	d := dice(1)
	for range 400 {
		paths := 1 + d.roll(2*api.MaxFiles)
		kinds := 1 + d.roll(20)
		compareDiff(t, d.revision(paths, kinds), d.revision(paths, kinds))
	}
}

// TestDiffAtLimits has as many and as long files as a revision can have.
func TestDiffAtLimits(t *testing.T) {
	most := full(api.MaxFiles)
	other := copyOf(most)
	for i := range other.Files {
		other.Files[i].Path = "g" + other.Files[i].Path[1:]
	}
	big := copyOf(most)
	for i := range big.Files {
		big.Files[i].Bytes = long[:len(long)-i]
	}
	longest := api.Revision{Files: []api.File{{Path: longPath, Bytes: long}}}
	l := []api.Revision{{}, most, other, big, longest, {Files: []api.File{{Path: longPath, Bytes: long[1:]}}}, {Files: []api.File{{Path: longPath[1:], Bytes: long}}}}
	for _, a := range l {
		for _, b := range l {
			compareDiff(t, a, b)
		}
	}
}

// badRevisions returns revisions with each error of revision.Check.
func badRevisions() []api.Revision {
	return []api.Revision{of("A"), of("=1"), of("a=1 a=1"), of("b a"), of("a b a"), of("a b c/"), full(api.MaxFiles + 1), {Files: []api.File{{Path: "a", Bytes: long + "x"}}}, {Files: []api.File{{Path: longPath + "n"}}}}
}

func TestDiffErrors(t *testing.T) {
	for _, bad := range badRevisions() {
		for _, good := range []api.Revision{{}, of("a=1 b=2"), full(api.MaxFiles), bad} {
			for _, c := range [][2]api.Revision{{bad, good}, {good, bad}} {
				if l, e := filediff.Diff(c[0], c[1]); len(l) > 0 || e != api.ErrInvalid {
					t.Errorf("Diff of %s and %s: %s, error %d", brief(c[0]), brief(c[1]), brief(l), e)
				}
			}
		}
	}
}

// TestNewMemory checks that results share no memory with arguments, or with each other (R3).
func TestNewMemory(t *testing.T) {
	same := "the same bytes"
	a := api.Revision{Files: []api.File{{Path: "path/a", Bytes: same}, {Path: "path/b", Bytes: same}, {Path: "path/c", Bytes: same}, {Path: "path/d", Bytes: "others"}, {Path: "path/e", Bytes: same}}}
	b := api.Revision{Files: []api.File{{Path: "path/a", Bytes: same}, {Path: "path/d", Bytes: same}, {Path: "path/f", Bytes: same}, {Path: "path/g", Bytes: "new ones"}, {Path: "path/h", Bytes: "new ones"}}}
	l, _ := filediff.Diff(a, b)
	out := stringsOfAll(l)
	if share(out, stringsOf(a)) || share(out, stringsOf(b)) || shareAmong(out) {
		t.Errorf("Diff shares memory: %s", brief(l))
	}
	name := "path/x"
	given := []api.Change{{Kind: api.FileAdded, Path: name, Bytes: same}, {Kind: api.FileChanged, Path: "path/a", Bytes: same}, {Kind: api.FileRenamed, Path: "path/y", From: "path/b"}, {Kind: api.FileRemoved, Path: "path/e"}}
	r, e := filediff.Apply(a, given)
	files := stringsOf(r)
	if e != api.OK || share(files, stringsOf(a)) || share(files, stringsOfAll(given)) || shareAmong(files) {
		t.Errorf("Apply shares memory: %s, error %d", brief(r), e)
	}
	back, e := filediff.Invert(a, given)
	out = stringsOfAll(back)
	if e != api.OK || share(out, stringsOf(a)) || share(out, stringsOfAll(given)) || shareAmong(out) {
		t.Errorf("Invert shares memory: %s, error %d", brief(back), e)
	}
}
