package resolve_test

import (
	"fmt"
	"slices"
	"strings"
	"testing"

	"testgate/api"
	"testgate/packages"
	"testgate/resolve"
	"testgate/revision"
	"testgate/source"
)

// call returns the answer of Call, and checks that its arguments are as before.
func call(t *testing.T, r api.Revision, f api.Source, name string) (a answer) {
	t.Helper()
	before, pkg, imports := copyOf(r), f.Package, slices.Clone(f.Imports)
	a.entity, a.keys, a.e = resolve.Call(r, f, name)
	if !revision.Same(r, before) || f.Package != pkg || !slices.Equal(f.Imports, imports) {
		t.Errorf("Call of %q changed %q or %v", name, before, f)
	}
	return a
}

// data returns the answer of Data, and checks that the revision is as before.
func data(t *testing.T, r api.Revision, path string) (a answer) {
	t.Helper()
	before := copyOf(r)
	a.kind, a.entity, a.keys, a.e = resolve.Data(r, path)
	if !revision.Same(r, before) {
		t.Errorf("Data of %q changed %q", path, before)
	}
	return a
}

// wantCall checks the answer of Call for a file of the first package that imports the other ones.
func wantCall(t *testing.T, l []draft, name string, pkgs ...string) answer {
	t.Helper()
	got, want := call(t, revisionOf(l...), fileOf(pkgs...), name), callIn(l, name, pkgs...)
	if !got.same(want) {
		t.Errorf("Call of %s in %q at %v: %v instead of %v", name, pkgs, l, got, want)
	}
	return got
}

// wantData checks the answer of Data.
func wantData(t *testing.T, l []draft, path string) answer {
	t.Helper()
	got, want := data(t, revisionOf(l...), path), dataIn(l, path)
	if !got.same(want) {
		t.Errorf("Data of %s at %v: %v instead of %v", path, l, got, want)
	}
	return got
}

// decoys returns files that declare the name f in ways that do not count as functions of p, q or s.
func decoys() (l []draft) {
	f := []declared{{api.DeclFunc, "f"}}
	for _, pkg := range []string{"p", "q", "s"} {
		l = append(l, draft{path: "broken/" + pkg + ".src", pkg: pkg, hidden: "broken", decls: f}, draft{path: "data/" + pkg, pkg: pkg, hidden: "data", decls: f})
	}
	l = append(l, draft{path: "f.src", pkg: "f", decls: f}, draft{path: "p", pkg: "pp", decls: f, hidden: "data"}, draft{path: "p.src", pkg: "pp", decls: f})
	return append(l, draft{path: "q.src", pkg: "q", decls: []declared{{api.DeclTest, "f"}, {api.DeclGen, "f"}, {api.DeclFunc, "ff"}}})
}

// TestCallOfAllCounts has all counts of f in three packages, and all lists of imports.
func TestCallOfAllCounts(t *testing.T) {
	all := []string{"p", "q", "s"}
	for n := range 27 {
		l := decoys()
		for i, pkg := range all {
			for k := range [3]int{n % 3, n / 3 % 3, n / 9}[i] {
				l = append(l, draft{path: fmt.Sprintf("%d/%s.src", 9-k, pkg), pkg: pkg, decls: []declared{{api.DeclTest, "f"}, {api.DeclGen, fmt.Sprint(pkg, k)}, {api.DeclFunc, "f"}}[k:]})
			}
		}
		for _, first := range append(slices.Clone(all), "none") {
			visitLists(append(slices.Clone(all), "none"), []string{first}, func(pkgs []string) { wantCall(t, l, "f", pkgs...) })
		}
	}
}

// visitLists visits all lists that begin with some strings, and have some of others behind them, each once.
func visitLists(others, l []string, visit func(l []string)) {
	visit(l)
	for _, s := range others {
		if !slices.Contains(l, s) {
			visitLists(others, append(slices.Clone(l), s), visit)
		}
	}
}

// TestRandom compares Call and Data with what random revisions were made of.
func TestRandom(t *testing.T) {
	d := dice(1)
	seen := map[string]int{}
	for range 400 {
		l := d.drafts()
		for _, name := range names {
			a := wantCall(t, l, name, d.searched()...)
			seen[fmt.Sprintf("call: error %d, %d keys", a.e, min(len(a.keys), 3))]++
		}
		for _, path := range slices.Concat(gens, dataPaths, sourcePaths) {
			seen[fmt.Sprint("data: kind ", wantData(t, l, path).kind)]++
		}
	}
	for _, what := range []string{"call: error 0, 1 keys", "call: error 0, 2 keys", "call: error 0, 3 keys", "call: error 12, 1 keys", "call: error 12, 2 keys", "call: error 12, 3 keys", "call: error 11, 1 keys", "call: error 11, 3 keys", "data: kind 0", "data: kind 1", "data: kind 2", "data: kind 3"} {
		if seen[what] < 20 {
			t.Errorf("only %d times %s", seen[what], what)
		}
	}
}

// TestDataOfAllCounts has all numbers of gens with a path, in one or several packages, with and without a file of this path.
func TestDataOfAllCounts(t *testing.T) {
	for _, path := range []string{"g", "m.src", "a/b.c", "zz/.src"} {
		for n := range 4 {
			for _, same := range []bool{false, true} {
				l := []draft{
					{path: "broken.src", pkg: "p", hidden: "broken", decls: []declared{{api.DeclGen, path}}}, {path: "data", pkg: "p", hidden: "data", decls: []declared{{api.DeclGen, path}}},
					{path: "others.src", pkg: "g", decls: []declared{{api.DeclFunc, "g"}, {api.DeclTest, "g"}, {api.DeclGen, path + "/x"}, {api.DeclGen, "x/" + path}}}, {path: path + "/y", pkg: "p", hidden: "data"}, {path: "y/" + path, pkg: "p", hidden: "broken"},
				}
				for k := range n {
					pkg := "p"
					if !same {
						pkg = fmt.Sprint("p", 9-k)
					}
					l = append(l, draft{path: fmt.Sprintf("%d.src", 9-k), pkg: pkg, decls: []declared{{api.DeclFunc, "g"}, {api.DeclTest, "g"}, {api.DeclGen, path}}[k%3:]})
				}
				wantData(t, l, path)
				for _, hidden := range []string{"", "broken", "data"} {
					wantData(t, append(slices.Clone(l), draft{path: path, pkg: "p", hidden: hidden, decls: []declared{{api.DeclGen, path}}}), path)
				}
			}
		}
	}
	if kind, e, keys, err := resolve.Data(api.Revision{Files: []api.File{{Path: "empty"}}}, "empty"); kind != 1 || e != (api.Entity{}) || !slices.Equal(keys, []api.Key{{Kind: api.KeyData, A: "empty"}}) || err != api.OK {
		t.Errorf("Data of a file without bytes: %d, %v, %v, %d", kind, e, keys, err)
	}
}

// TestNames has names of functions, and strings that are none. Reserved words are names, though no function has them.
func TestNames(t *testing.T) {
	long := strings.Repeat("n", api.MaxName)
	for name, ok := range map[string]bool{
		"f": true, "f_1": true, "z": true, long: true, "if": true, "package": true, "flip": true, "none": true,
		"": false, "F": false, "fF": false, "1": false, "1f": false, "_": false, "_f": false, "a.b": false, "a/b": false, "a b": false, " f": false, "f ": false, "f\n": false, "f()": false, "-1": false, "é": false, "\xff": false, "\x00": false, long + "n": false,
	} {
		l := []draft{{path: "a.src", pkg: "p"}, {path: "b.src", pkg: "q", decls: []declared{{api.DeclTest, "t"}, {api.DeclFunc, "f"}, {api.DeclFunc, long}}}}
		if ok {
			wantCall(t, l, name, "p", "none", "q", "s")
		} else if a := call(t, revisionOf(l...), fileOf("p", "none", "q", "s"), name); !a.same(answer{e: api.ErrInvalid}) {
			t.Errorf("Call of %q: %v", name, a)
		}
	}
}

// TestPaths has paths, and strings that are none.
func TestPaths(t *testing.T) {
	part := strings.Repeat("p", api.MaxName)
	long := part + "/" + part + "/" + part + "/abcde"
	for path, ok := range map[string]bool{
		"a": true, "a/b.src": true, ".": true, "..": true, "_": true, "1/2": true, "a/b/c/d/e/f/g/h": true, part: true, long: true, "if": true, "none": true,
		"": false, "/": false, "/a": false, "a/": false, "a//b": false, "A": false, "a b": false, " a": false, "a\n": false, "a-b": false, "é": false, "\xff": false, "a/b/c/d/e/f/g/h/i": false, part + "p": false, long + "f": false,
	} {
		l := []draft{{path: "c.src", pkg: "p", decls: []declared{{api.DeclGen, "a/b/c/d/e/f/g/h"}, {api.DeclGen, part}, {api.DeclGen, long}, {api.DeclGen, "if"}}}, {path: "1/2", pkg: "p", hidden: "data"}}
		if ok {
			wantData(t, l, path)
		} else if a := data(t, revisionOf(l...), path); !a.same(answer{e: api.ErrInvalid}) {
			t.Errorf("Data of %q: %v", path, a)
		}
	}
}

// TestRefused has revisions for each error of revision.Check; without the mistake, all that is looked up would be found.
func TestRefused(t *testing.T) {
	text := "package p; func f() = 1; gen \"g\" = 1;"
	good := []api.File{{Path: "a.dat"}, {Path: "a.src", Bytes: text}}
	many := slices.Clone(good)
	for i := range api.MaxFiles - 1 {
		many = append(many, api.File{Path: fmt.Sprintf("b%02d", i)})
	}
	long := strings.Repeat("x", api.MaxBytes+1)
	for what, files := range map[string][]api.File{
		"too many files": many, "a wrong path": append(slices.Clone(good), api.File{Path: "b c"}), "no path": append([]api.File{{}}, good...), "twice": append(slices.Clone(good), good[1]), "descending": append([]api.File{{Path: "b"}}, good...), "too many bytes": append(slices.Clone(good), api.File{Path: "b", Bytes: long}), "too many bytes of the file": {good[0], {Path: "a.src", Bytes: text + "#" + long}}, "too many bytes of the data": {{Path: "a.dat", Bytes: long}, good[1]},
	} {
		r := api.Revision{Files: files}
		for _, name := range []string{"f", "none", "if", "F", ""} {
			if a := call(t, r, fileOf("p", "q"), name); !a.same(answer{e: api.ErrInvalid}) {
				t.Errorf("%s: Call of %q: %v", what, name, a)
			}
		}
		for _, path := range []string{"a.dat", "a.src", "g", "none", "A", ""} {
			if a := data(t, r, path); !a.same(answer{e: api.ErrInvalid}) {
				t.Errorf("%s: Data of %q: %v", what, path, a)
			}
		}
	}
	most := api.Revision{Files: many[:api.MaxFiles]}
	if a := call(t, most, fileOf("p"), "f"); a.e != api.OK {
		t.Errorf("Call with the greatest number of files: %v", a)
	}
	if a := data(t, most, "g"); a.e != api.OK {
		t.Errorf("Data with the greatest number of files: %v", a)
	}
	for _, r := range []api.Revision{{}, {Files: []api.File{}}} {
		if a := call(t, r, fileOf("p", "q"), "f"); !a.same(callIn(nil, "f", "p", "q")) {
			t.Errorf("Call without files: %v", a)
		}
		if a := data(t, r, "g"); !a.same(dataIn(nil, "g")) {
			t.Errorf("Data without files: %v", a)
		}
	}
}

// TestImportsOfOthers has imports of other files, which are not looked at: neither those of the package that is imported, nor those of another file of the package, nor those of the same file in the revision.
func TestImportsOfOthers(t *testing.T) {
	r := api.Revision{Files: []api.File{
		{Path: "a.src", Bytes: "package p; import s; test t = f();"},
		{Path: "b.src", Bytes: "package q; import s; test t = f();"},
		{Path: "c.src", Bytes: "package s; func f() = 1;"},
	}}
	keys := []api.Key{{Kind: api.KeyFunc, A: "p", B: "f"}, {Kind: api.KeyFunc, A: "q", B: "f"}}
	if a := call(t, r, fileOf("p", "q"), "f"); !a.same(answer{keys: keys, e: api.ErrName}) {
		t.Errorf("Call found what others import: %v", a)
	}
	if a := call(t, r, fileOf("p"), "f"); !a.same(answer{keys: keys[:1], e: api.ErrName}) {
		t.Errorf("Call without imports: %v", a)
	}
	f, ok := packages.Source(r, "b.src")
	want := answer{entity: api.Entity{Package: "s", Name: "f", Kind: api.DeclFunc, Place: "c.src", Count: 1}, keys: []api.Key{keys[1], {Kind: api.KeyFunc, A: "s", B: "f"}}}
	if a := call(t, r, f, "f"); !ok || !a.same(want) {
		t.Errorf("Call in b.src: %v", a)
	}
}

// TestOnlyPackageAndImports has files that source.Check refuses, and declarations that do not matter.
func TestOnlyPackageAndImports(t *testing.T) {
	l := []draft{{path: "a.src", pkg: "q", decls: []declared{{api.DeclFunc, "f"}}}}
	odd := []api.Decl{{Kind: api.DeclFunc, Name: "f"}, {Kind: 99, Name: "\xff", Params: []string{"f", "f"}, Body: []api.Expr{{Kind: -1, Args: []int{-1, 7}}}}}
	many := []string{"p"}
	for i := range 20 * api.MaxImports {
		many = append(many, fmt.Sprint("i", i))
	}
	for _, pkgs := range [][]string{{"p"}, {"p", "q"}, {"q"}, {""}, {"", "q"}, {"if", "A b", "\xff", "", "q", "none"}, {strings.Repeat("p", 1000), "a/b", "q"}, many, append(slices.Clone(many), "q", "none")} {
		wantCall(t, l, "f", pkgs...)
		f := fileOf(pkgs...)
		f.Decls = odd
		if got, want := call(t, revisionOf(l...), f, "f"), callIn(l, "f", pkgs...); !got.same(want) {
			t.Errorf("Call in %q with declarations: %v instead of %v", pkgs, got, want)
		}
	}
	if e := source.Check(fileOf(many...)); e == api.OK {
		t.Error("a file with many imports is well-formed")
	}
}

// TestEachKeyOnce has files that name a package twice, so that source.Check refuses them. Lists have each key once (R6).
func TestEachKeyOnce(t *testing.T) {
	l := []draft{{path: "a.src", pkg: "s", decls: []declared{{api.DeclFunc, "f"}}}}
	for _, pkgs := range [][]string{{"p", "p"}, {"p", "q", "q"}, {"p", "q", "p", "q", "s", "s"}, {"p", "q", "q", "p", "none", "q", "p"}, {"", "", "s", ""}, {"s", "s"}} {
		var once []string
		for _, pkg := range pkgs {
			if !slices.Contains(once, pkg) {
				once = append(once, pkg)
			}
		}
		if got, want := call(t, revisionOf(l...), fileOf(pkgs...), "f"), callIn(l, "f", once...); !got.same(want) {
			t.Errorf("Call in %v: %v instead of %v", pkgs, got, want)
		}
	}
}

// TestResultsShareNothing checks that results have memory of their own.
func TestResultsShareNothing(t *testing.T) {
	r := copyOf(api.Revision{Files: []api.File{{Path: "path/one.src", Bytes: "package imported; func function() = 1; gen \"path/gen\" = 1;"}, {Path: "path/two"}}})
	f := api.Source{Package: strings.Clone("pack"), Imports: []string{strings.Clone("nothing"), strings.Clone("imported")}}
	name, gen, file, none := strings.Clone("function"), strings.Clone("path/gen"), strings.Clone("path/two"), strings.Clone("path/none")
	given := append([]string{f.Package, name, gen, file, none}, f.Imports...)
	for _, x := range r.Files {
		given = append(given, x.Path, x.Bytes)
	}
	answers := []answer{call(t, r, f, name), call(t, r, f, name), call(t, r, f, f.Package), data(t, r, gen), data(t, r, gen), data(t, r, file), data(t, r, none)}
	for _, a := range answers {
		got := []string{a.entity.Package, a.entity.Name, a.entity.Place}
		for _, k := range a.keys {
			got = append(got, k.A, k.B)
		}
		for _, s := range got {
			if slices.ContainsFunc(given, func(other string) bool { return overlap(s, other) }) {
				t.Errorf("%q of %v shares memory", s, a)
			}
			given = append(given, s)
		}
	}
	clear(answers[0].keys[:cap(answers[0].keys)])
	if again := call(t, r, f, name); !again.same(answers[1]) || len(again.keys) != 3 {
		t.Errorf("Call of %s is %v after a change of its result", name, again)
	}
}
