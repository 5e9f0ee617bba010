package entitydiff_test

import (
	"fmt"
	"slices"
	"strings"
	"testing"

	"testgate/api"
	"testgate/entitydiff"
)

// The files of small: p imports q, which imports r, and s imports r.
const (
	fileP = "package p; import q; func f(x) = h(x); test t = f(1); gen \"g\" = 1;"
	fileQ = "package q; import r; func h(x) = x;"
	fileR = "package r; func f(x) = 2; func g() = f(0);"
	fileS = "package s; import r; test f = 1; test t = g();"
)

func small() api.Revision {
	return of("a.dat", "1", "p.src", fileP, "q.src", fileQ, "r.src", fileR, "s.src", fileS)
}

// replaced returns small with other words in a file.
func replaced(path, old, now string) api.Revision {
	r := small()
	i := slices.IndexFunc(r.Files, func(f api.File) bool { return f.Path == path })
	return put(r, path, strings.ReplaceAll(r.Files[i].Bytes, old, now))
}

// TestChanged has changes of small, and the keys that they change (P16.1).
func TestChanged(t *testing.T) {
	const (
		treesP, treesQ, treesR, treesS = "files p, tree p", "files q, tree p, tree q", "files r, tree p, tree q, tree r, tree s", "files s, tree s"
		allP, allS                     = "test p t, gen g", "test s f, test s t"
	)
	for _, c := range []struct {
		name string
		r    api.Revision
		want string
	}{
		{"nothing", small(), ""},
		{"a new function, the example", replaced("r.src", "r;", "r; func e() = 1;"), "func r e, data r.src," + treesR}, {"a new function where nothing imports it", replaced("s.src", "r;", "r; func t() = 1;"), "func s t, data s.src," + treesS}, {"a function less", replaced("r.src", "func g() = f(0);", ""), "func r g, data r.src," + treesR},
		{"another body of a function", replaced("q.src", "= x", "= 1"), "func q h, data q.src," + treesQ}, {"of a test", replaced("p.src", "f(1)", "f(2)"), "test p t, data p.src," + treesP}, {"of a gen", replaced("p.src", "= 1;", "= 2;"), "gen g, data p.src," + treesP}, {"of a test with the name of a function", replaced("s.src", "f = 1", "f = 2"), "test s f, data s.src," + treesS},
		{"another parameter", replaced("q.src", "h(x) = x", "h(y) = y"), "func q h, data q.src," + treesQ}, {"another name", replaced("q.src", "h(", "f("), "func q f, func q h, data q.src," + treesQ}, {"a function becomes a test", replaced("r.src", "func g()", "test g"), "func r g, test r g, data r.src," + treesR}, {"another path of a gen", replaced("p.src", "\"g\"", "\"a.dat\""), "gen a.dat, gen g, data p.src," + treesP},
		{"a comment", replaced("q.src", ";", ";# f\n"), "data q.src," + treesQ}, {"blanks", replaced("r.src", " ", "\r\n\t"), "data r.src," + treesR}, {"parentheses", replaced("q.src", "= x", "= ((x))"), "data q.src," + treesQ}, {"another order of declarations", put(small(), "r.src", "package r; func g() = f(0); func f(x) = 2;"), "data r.src," + treesR},
		{"another path", put(without(small(), "q.src"), "z/q.src", fileQ), "data q.src, data z/q.src," + treesQ}, {"a path of data", put(without(small(), "q.src"), "q", fileQ), "func q h, data q, data q.src," + treesQ}, {"the path .src, which is one of data", put(without(small(), "q.src"), ".src", fileQ), "func q h, data .src, data q.src," + treesQ}, {"an exchange", put(put(small(), "p.src", fileQ), "q.src", fileP), "data p.src, data q.src, files p, files q, tree p, tree q"},
		{"an import more, of no package", replaced("p.src", "q;", "q; import none;"), "func p f," + allP + ", data p.src," + treesP}, {"an import less", replaced("s.src", "import r;", ""), allS + ", data s.src," + treesS}, {"another order of imports, before", replaced("s.src", "r;", "r; import q;"), allS + ", data s.src," + treesS}, {"a circle of imports", replaced("r.src", "r;", "r; import p;"), "func r f, func r g, data r.src," + treesR},
		{"another package", replaced("s.src", "package s", "package x"), "test s f, test s t, test x f, test x t, data s.src, files s, files x, tree s, tree x"}, {"a package that is imported goes away", without(small(), "r.src"), "func r f, func r g, data r.src," + treesR}, {"a package goes to another one", replaced("q.src", "package q; import r", "package r; import q"), "func q h, func r h, data q.src, files q, files r, tree p, tree q, tree r, tree s"}, {"a gen of another package", replaced("p.src", "package p", "package x"), "func p f, func x f, test p t, test x t, gen g, data p.src, files p, files x, tree p, tree x"},
		{"a file that breaks", replaced("q.src", ";", ""), "func q h, data q.src," + treesQ}, {"a file that is broken", put(small(), "z.src", "package q; func h() = ;"), "data z.src"}, {"a file of nothing", put(small(), "z.src", "package z;"), "data z.src, files z, tree z"}, {"a file without bytes", put(small(), "z.src", ""), "data z.src"},
		{"a second declaration", put(small(), "z.src", "package q; func h() = 1;"), "func q h, data z.src," + treesQ}, {"a second declaration, the same one", put(small(), "z.src", fileQ), "func q h, data z.src," + treesQ}, {"a second gen", put(small(), "z.src", "package z; gen \"g\" = 1;"), "gen g, data z.src, files z, tree z"},
		{"other data", put(small(), "a.dat", "2"), "data a.dat"}, {"data like what is missing", put(small(), "a.dat", "-"), "data a.dat"}, {"data without bytes", put(small(), "b.dat", ""), "data b.dat"}, {"data with the path of a gen", put(small(), "g", "\x00"), "data g"}, {"no data", without(small(), "a.dat"), "data a.dat"}, {"data that looks like source", put(small(), "s.dat", fileS), "data s.dat"},
		{"nothing at all", of(), "func p f, func q h, func r f, func r g, test p t, test s f, test s t, gen g, data a.dat, data p.src, data q.src, data r.src, data s.src, files p, files q, files r, files s, tree p, tree q, tree r, tree s"},
	} {
		if got := words(diff(t, point{r: small()}, point{r: c.r})); !slices.Equal(got, listed(c.want)) {
			t.Errorf("%s: %q", c.name, got)
		}
	}
}

// TestAmbiguous changes how many files declare something: from two on, the contents are the same, whatever the declarations are (P16.1).
func TestAmbiguous(t *testing.T) {
	declare := func(bodies ...string) (p point) {
		for i, body := range bodies {
			p.r = put(p.r, fmt.Sprint("a", i, ".src"), "package p; func f() = "+body+"; test f = "+body+"; gen \"f\" = "+body+";")
		}
		return p
	}
	entities := []string{"func p f", "test p f", "gen f"}
	for _, c := range []struct {
		a, b    []string
		changed bool
	}{
		{[]string{"1", "1"}, []string{"1"}, true}, {[]string{"1", "2"}, []string{"1"}, true}, {[]string{"1", "2"}, nil, true}, {[]string{"1", "2"}, []string{"2", "1"}, false}, {[]string{"1", "1"}, []string{"3", "4"}, false}, {[]string{"1", "2"}, []string{"1", "2", "3"}, false}, {[]string{"1", "2", "1"}, []string{"2"}, true}, {[]string{"1"}, []string{"2"}, true}, {[]string{"1"}, nil, true},
	} {
		got := words(diff(t, declare(c.a...), declare(c.b...)))
		for _, entity := range entities {
			if slices.Contains(got, entity) != c.changed {
				t.Errorf("from %q to %q: %q", c.a, c.b, got)
			}
		}
		if !slices.Contains(got, "files p") || !slices.Contains(got, "tree p") {
			t.Errorf("from %q to %q: %q", c.a, c.b, got)
		}
	}
}

// TestTrees adds packages that others import (P16.1): names that are imported have a tree before there is a package, and trees have circles.
func TestTrees(t *testing.T) {
	for _, c := range []struct{ name, imports, gone, want string }{
		{"nothing imports it", "a>b", "c", "tree c"}, {"directly", "a>b", "b", "tree a, tree b"}, {"indirectly", "a>b b>c c>d", "d", "tree a, tree b, tree c, tree d"}, {"in the middle", "a>b b>c c>d", "b", "tree a, tree b"}, {"the first one", "a>b b>c", "a", "tree a"}, {"on two ways", "a>b a>c b>d c>d", "d", "tree a, tree b, tree c, tree d"}, {"a circle", "a>b b>c c>a d>a", "b", "tree a, tree b, tree c, tree d"}, {"beside a circle", "a>b b>a a>c d>e", "c", "tree a, tree b, tree c"}, {"a small circle", "a>b b>a", "a", "tree a, tree b"}, {"apart", "a>b c>d", "d", "tree c, tree d"}, {"through no package", "a>x x>b", "b", "tree a, tree b, tree x"},
	} {
		with := of()
		for _, pkg := range []string{"a", "b", "c", "d", "e", "x"} {
			bytes := "package " + pkg + "; "
			for way := range strings.FieldsSeq(c.imports) {
				if from, to, _ := strings.Cut(way, ">"); from == pkg {
					bytes += "import " + to + "; "
				}
			}
			with = put(with, pkg+".src", bytes)
		}
		want := append([]string{"data " + c.gone + ".src", "files " + c.gone}, listed(c.want)...)
		if got := words(diff(t, point{r: with}, point{r: without(with, c.gone+".src")})); !slices.Equal(got, want) {
			t.Errorf("%s: %q instead of %q", c.name, got, want)
		}
	}
	a, b := of("a.src", "package a; import x;"), of("a.src", "package a; import x; import y;")
	for _, c := range []struct {
		r    api.Revision
		want string
	}{
		{b, "data a.src, files a, tree a"}, {of(), "data a.src, files a, tree a"}, {put(a, "b.src", "package b; import y;"), "data b.src, files b, tree b"}, {put(a, "x.src", "package x; import y;"), "data x.src, files x, tree a, tree x"}, {put(a, "y.src", "package y;"), "data y.src, files y, tree y"},
	} {
		if got := words(diff(t, point{r: a}, point{r: c.r})); !slices.Equal(got, listed(c.want)) {
			t.Errorf("from %q to %q: %q", a, c.r, got)
		}
	}
}

func TestEnvironments(t *testing.T) {
	for _, c := range []struct{ a, b, want string }{
		{"", "", ""}, {"a=1 b=2", "a=1 b=2", ""}, {"", "a=0", "env a"}, {"a=0", "a=1", "env a"}, {"a=1", "a=-1", "env a"}, {"a=1", "b=1", "env a, env b"}, {"a=1 b=2", "a=2 b=1", "env a, env b"}, {"a=1 c=2 d=3", "b=1 c=2 d=4", "env a, env b, env d"}, {"z=1", "a=1 a0=1 a_=1 aa=1", "env a, env a0, env a_, env aa, env z"},
		{"a=9007199254740992", "a=-9007199254740992", "env a"}, {"a=9007199254740991", "a=9007199254740992", "env a"}, {"a=1", "a=10", "env a"},
	} {
		if got := words(diff(t, point{env: variables(c.a)}, point{env: variables(c.b)})); !slices.Equal(got, listed(c.want)) {
			t.Errorf("from %q to %q: %q", c.a, c.b, got)
		}
	}
}

// TestAll has changes on both sides: keys of variables stand between the others (P16.1).
func TestAll(t *testing.T) {
	a := point{of("p.src", "package p;", "z", ""), variables("a=1 p=2 z=3")}
	b := point{of("p", "", "p.src", "package p; func p() = 1; gen \"p\" = 1; test p = 1;"), variables("b=1 p=1 z=3")}
	want := listed("func p p, test p p, gen p, data p, data p.src, data z, env a, env b, env p, files p, tree p")
	if got := words(diff(t, a, b)); !slices.Equal(got, want) {
		t.Errorf("All is %q", got)
	}
	if got := words(diff(t, a, point{a.r, b.env})); !slices.Equal(got, want[6:9]) {
		t.Errorf("All of one revision is %q", got)
	}
	if got := words(diff(t, a, point{b.r, a.env})); !slices.Equal(got, append(want[:6:6], want[9:]...)) {
		t.Errorf("All of one environment is %q", got)
	}
	if got := diff(t, a, point{put(a.r, "z", ""), a.env}); len(got) > 0 {
		t.Errorf("All of equal sides is %q", words(got))
	}
}

// TestEmpty has nil and empty lists (R4).
func TestEmpty(t *testing.T) {
	none, empty := point{}, point{api.Revision{Files: []api.File{}}, api.Environment{Variables: []api.Variable{}}}
	if got := diff(t, none, empty); len(got) > 0 {
		t.Errorf("All of nil and of empty lists is %q", words(got))
	}
}

// TestOrder has names in an order that is not that of the files (P16.1, R6).
func TestOrder(t *testing.T) {
	r := of("a.src", "package q0; test b = 1; gen \"z\" = 1; func b() = 1; func a_() = 1; func a0() = 1; gen \"a/b\" = 1;", "a/z", "", "a0", "", "b.src", "package q; func aa() = 1; func a() = 1; gen \"a.b\" = 1; gen \"a\" = 1;", "c.src", "package q_; test z = 1; test b = 1;")
	want := listed("func q a, func q aa, func q0 a0, func q0 a_, func q0 b, test q0 b, test q_ b, test q_ z, gen a, gen a.b, gen a/b, gen z, data a.src, data a/z, data a0, data b.src, data c.src, files q, files q0, files q_, tree q, tree q0, tree q_")
	if got := words(diff(t, point{}, point{r: r})); !slices.Equal(got, want) {
		t.Errorf("All is %q", got)
	}
	if l, e := entitydiff.Packages(api.Revision{}, r); !slices.Equal(l, []string{"q", "q0", "q_"}) || e != api.OK {
		t.Errorf("Packages is %q, error %d", l, e)
	}
}

// TestNewMemory checks that results share no memory with arguments (R3).
func TestNewMemory(t *testing.T) {
	r := of("data", "1", "path/of.src", "package pack; import other; func fun() = 1; test tests = 1; gen \"path/gen\" = 1;")
	p := point{r, variables("variable=1")}
	given := []string{"data", r.Files[0].Path, r.Files[1].Path, r.Files[1].Bytes, p.env.Variables[0].Name}
	var got []string
	for _, sides := range [][2]point{{p, {}}, {{}, p}} {
		for _, k := range diff(t, sides[0], sides[1]) {
			got = append(got, k.A, k.B)
		}
		l, _ := entitydiff.Packages(sides[0].r, sides[1].r)
		got = append(got, l...)
	}
	for i, s := range got {
		for _, other := range slices.Concat(given, got[i+1:]) {
			if overlap(s, other) {
				t.Errorf("%q shares memory with %q", s, other)
			}
		}
	}
	if len(got) != 2*(8*2+1) {
		t.Errorf("there are %d strings", len(got))
	}
}
