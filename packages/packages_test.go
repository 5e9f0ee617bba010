package packages_test

import (
	"fmt"
	"maps"
	"slices"
	"strings"
	"testing"

	"testgate/api"
	"testgate/packages"
	"testgate/source"
)

// TestDrafts compares all functions with what many revisions were made of.
func TestDrafts(t *testing.T) {
	d := dice(1)
	seen := map[string]int{}
	wantAll(t, nil)
	for range 80 {
		l := d.drafts()
		wantAll(t, l)
		for _, x := range l {
			seen[fmt.Sprintf("data %t, broken %t", x.data, x.broken)]++
		}
		for _, e := range allFound(l, pkgs, slices.Concat(names, gens)) {
			seen[fmt.Sprintf("kind %d, count %d", e.Kind, min(e.Count, 3))]++
		}
	}
	for _, what := range []string{"data true, broken false", "data false, broken false", "data false, broken true", "kind 1, count 1", "kind 1, count 2", "kind 1, count 3", "kind 2, count 1", "kind 2, count 2", "kind 2, count 3", "kind 3, count 1", "kind 3, count 2", "kind 3, count 3"} {
		if seen[what] < 20 {
			t.Errorf("only %d times %s", seen[what], what)
		}
	}
}

// TestSourceFiles has files that are and are not source files, all with the same bytes.
func TestSourceFiles(t *testing.T) {
	const text = "package p; test t = 1;"
	for path, is := range map[string]bool{"a.src": true, "a/.src": true, "src.src": true, "..src": true, "a.src/b.src": true, ".src": false, "a": false, "src": false, "a.srcs": false, "a.src/b": false, "asrc": false} {
		for s, ok := range map[string]bool{text: true, "package": false, "": false} {
			r := of(path, s)
			f, found := packages.Source(r, path)
			if found != (is && ok) || len(f.Decls) != len(packages.Entities(r)) || (f.Package == "p") != found {
				t.Errorf("Source of %s with %q: %v, %t", path, s, f, found)
			}
			if l := packages.Broken(r); slices.Contains(l, path) != (is && !ok) || len(l) > 1 {
				t.Errorf("Broken of %s with %q: %q", path, s, l)
			}
			n := 0
			if is && ok {
				n = 1
			}
			if len(packages.Names(r)) != n || len(packages.Files(r, "p")) != n || len(packages.Tests(r)) != n || packages.Find(r, api.DeclTest, "p", "t").Count != n {
				t.Errorf("%s with %q: %q, %q, %v", path, s, packages.Names(r), packages.Files(r, "p"), packages.Tests(r))
			}
		}
	}
	r := of("a.src", text, "b.src", "package", "c.dat", text)
	for _, path := range []string{"b.src", "c.dat", "c.src", "a", "a.src ", "A.src", "", "/", "\xff"} {
		if f, ok := packages.Source(r, path); ok || !source.Same(f, api.Source{}) {
			t.Errorf("Source of %q: %v, %t", path, f, ok)
		}
	}
}

// TestBrokenFiles has a file for each error of source.Parse, and one that is just not broken.
func TestBrokenFiles(t *testing.T) {
	texts := map[string]bool{
		"": true, " ": true, "# package p;": true, "package p": true, "package if;": true, "package p;;": true, "test t = 1;": true, "package p; test t = x;": true, "package p; test t = 1": true, "package p; test t = 1; $": true,
		"package p; import p;": true, "package p; import q; import q;": true, "package p; test t = 1; test t = 1;": true, "package p; gen \"A\" = 1;": true, "package p; gen \"g\" = 1; gen \"g\" = 1;": true, "package p; test t = 9007199254740993;": true, "package p; test t = flip(64);": true,
		"package p" + strings.Repeat("p", api.MaxName) + ";": true, "package p; test t = " + strings.Repeat("(", api.MaxNesting) + "1" + strings.Repeat(")", api.MaxNesting) + ";": true,
		"package p;": false, "package p; import q;": false, "package p; test t = 1; func t() = 1; gen \"t\" = 1;": false, "package p; test t = 9007199254740992;": false, "package p; test t = f(1) / 0;": false, "# x\npackage p;": false,
		"package p" + strings.Repeat("p", api.MaxName-1) + ";": false, "package p; test t = " + strings.Repeat("(", api.MaxNesting-1) + "1" + strings.Repeat(")", api.MaxNesting-1) + ";": false,
	}
	var r api.Revision
	var broken []string
	for i, s := range slices.Sorted(maps.Keys(texts)) {
		path := fmt.Sprintf("f%02d.src", i)
		r.Files = append(r.Files, api.File{Path: path, Bytes: s})
		if texts[s] {
			broken = append(broken, path)
		}
		f, ok := packages.Source(of(path, s), path)
		if want, _, e := source.Parse(s); ok == texts[s] || ok != (e == api.OK) || !source.Same(f, want) {
			t.Errorf("Source of %.99q: %v, %t", s, f, ok)
		}
	}
	if l := packages.Broken(r); !slices.Equal(l, broken) {
		t.Errorf("Broken: %q instead of %q", l, broken)
	}
	if l := packages.Names(r); !slices.Equal(l, []string{"p", strings.Repeat("p", api.MaxName)}) {
		t.Errorf("Names: %q", l)
	}
	if n := len(packages.Files(r, "p")); n != len(texts)-len(broken)-1 {
		t.Errorf("the package p has %d files", n)
	}
}

// TestRefused has revisions for each error of revision.Check; without the mistake they would have something.
func TestRefused(t *testing.T) {
	const text = "package p; func f() = 1; test t = 1; gen \"g\" = 1;"
	many := api.Revision{}
	for i := range api.MaxFiles + 1 {
		many.Files = append(many.Files, api.File{Path: fmt.Sprintf("f%02d.src", i), Bytes: text})
	}
	long := strings.Repeat("x", api.MaxBytes+1)
	for name, r := range map[string]api.Revision{
		"too many files": many, "no path": of("", "", "a.src", text), "a wrong path": of("A", "", "a.src", text), "a wrong path at the end": of("a.src", text, "b.src", "package", "c d", ""),
		"twice": of("a.src", text, "a.src", text), "twice, and one is broken": of("a.src", text, "a.src", "package"), "twice at the end": of("a.src", text, "b.src", "package", "z", "", "z", ""), "descending": of("b.src", text, "a.src", text), "descending data": of("a.src", text, "z", "", "y", ""),
		"too many bytes": of("a.src", text, "b.src", "package", "c", long), "too many bytes of a source file": of("a.src", text+"#"+long, "b.src", text),
	} {
		wantNothing(t, name, r)
	}
	many.Files = many.Files[:api.MaxFiles]
	if e := packages.Find(many, api.DeclTest, "p", "t"); e.Count != api.MaxFiles || len(packages.Entities(many)) != 3 || len(packages.Files(many, "p")) != api.MaxFiles {
		t.Errorf("the greatest number of files has %v", e)
	}
	if e := packages.Find(api.Revision{Files: []api.File{}}, 7, "a", "b"); e != (api.Entity{Package: "a", Name: "b", Kind: 7}) {
		t.Errorf("Find without files: %v", e)
	}
}

// TestGreatRevision has as many files and declarations as possible.
func TestGreatRevision(t *testing.T) {
	var l []draft
	for i := range api.MaxFiles {
		d := draft{path: fmt.Sprintf("f%02d.src", i), pkg: pkgs[i%len(pkgs)]}
		for k := range api.MaxDecls {
			n := declared{api.DeclFunc + k%3, fmt.Sprintf("d%dx%d", i, k)}
			if i == api.MaxFiles-1 && k < 3 {
				n.name = "d0x0"
			}
			d.decls = append(d.decls, n)
		}
		d.bytes = written(d.source())
		l = append(l, d)
	}
	r := revisionOf(l)
	all := packages.Entities(r)
	if len(all) != api.MaxFiles*api.MaxDecls {
		t.Errorf("%d entities", len(all))
	}
	for i, e := range all {
		if e != found(l, e.Kind, e.Package, e.Name) || e.Count != 1 {
			t.Errorf("the entity %d is %v", i, e)
		}
	}
	for _, e := range []api.Entity{all[0], all[1000], all[len(all)-1]} {
		if got := packages.Find(r, e.Kind, e.Package, e.Name); got != e {
			t.Errorf("Find of %v: %v", e, got)
		}
	}
	if n := len(packages.Tests(r)); n != api.MaxFiles*(api.MaxDecls-1)/3 {
		t.Errorf("%d tests", n)
	}
}

// TestResultsShareNothing checks that results have memory of their own.
func TestResultsShareNothing(t *testing.T) {
	text := "package pack; import imported; func fun(param) = param + call(); test tes = 1; gen \"path/g\" = size(\"x.dat\");"
	r := copyOf(of("a/file.src", text, "b/file.src", "package", "c/file.src", text))
	before := copyOf(r)
	pkg, name := strings.Clone("pack"), strings.Clone("nothing")
	given := []string{pkg, name}
	for _, f := range r.Files {
		given = append(given, f.Path, f.Bytes)
	}
	f, _ := packages.Source(r, "a/file.src")
	g, _, _ := packages.Decl(r, packages.Entities(r)[0])
	got := map[string][]string{"Broken": packages.Broken(r), "Names": packages.Names(r)}
	for _, f := range packages.Files(r, pkg) {
		got["Files"] = append(got["Files"], f.Path, f.Bytes)
	}
	for _, e := range append(packages.Entities(r), packages.Find(r, api.DeclFunc, pkg, name), packages.Find(r, api.DeclFunc, pkg, "fun"), packages.Find(r, api.DeclGen, pkg, name), packages.Find(r, 9, pkg, name)) {
		got["entities"] = append(got["entities"], e.Package, e.Name, e.Place)
	}
	for _, n := range packages.Tests(of("a.src", text)) {
		got["Tests"] = append(got["Tests"], n.Package, n.Test)
	}
	for _, f := range []api.Source{f, g} {
		got["sources"] = append(got["sources"], f.Package, f.Imports[0], f.Decls[0].Name, f.Decls[0].Params[0], f.Decls[0].Body[1].Name, f.Decls[2].Name, f.Decls[2].Body[0].Name)
	}
	for what, l := range got {
		for i, s := range l {
			for _, other := range slices.Concat(given, l[:i]) {
				if overlap(s, other) {
					t.Errorf("%s: %q shares memory with %.20q", what, s, other)
				}
			}
		}
	}
	f.Imports[0], f.Decls[0].Body[0].Kind, f.Decls[1].Name = "changed", 99, "changed"
	files := packages.Files(r, pkg)
	clear(files[:cap(files)])
	if again, _ := packages.Source(r, "a/file.src"); !source.Same(again, g) || !slices.Equal(r.Files, before.Files) {
		t.Error("a result shares memory with another one, or with the revision")
	}
}
