package packages_test

import (
	"cmp"
	"fmt"
	"slices"
	"strings"
	"testing"
	"unsafe"

	"testgate/api"
	"testgate/packages"
	"testgate/source"
)

// draft is what a file of a revision is to be: a source file with a package and declarations, a broken one, or data.
type draft struct {
	path, bytes string
	data        bool
	broken      bool
	pkg         string
	imports     []string
	decls       []declared
}

// declared is a declaration whose body is the number of its index.
type declared struct {
	kind int
	name string
}

// source returns the source that a draft stands for.
func (d draft) source() api.Source {
	f := api.Source{Package: d.pkg, Imports: d.imports}
	for i, x := range d.decls {
		f.Decls = append(f.Decls, api.Decl{Kind: x.kind, Name: x.name, Body: []api.Expr{{Kind: api.ExprNumber, Number: i}}})
	}
	return f
}

// isOf tells whether a draft is a source file that is not broken, of a package.
func (d draft) isOf(pkg string) bool { return !d.data && !d.broken && d.pkg == pkg }

// written returns the bytes of a source.
func written(f api.Source) string {
	s, e := source.Format(f)
	if e != api.OK {
		panic(fmt.Sprint("Format: error ", e))
	}
	return s
}

// revisionOf returns the revision of drafts.
func revisionOf(l []draft) (r api.Revision) {
	for _, d := range l {
		r.Files = append(r.Files, api.File{Path: d.path, Bytes: d.bytes})
	}
	return r
}

// of returns a revision of paths and bytes that take turns.
func of(l ...string) (r api.Revision) {
	for i := 0; i < len(l); i += 2 {
		r.Files = append(r.Files, api.File{Path: l[i], Bytes: l[i+1]})
	}
	return r
}

// copyOf returns a revision that shares no memory with r.
func copyOf(r api.Revision) (out api.Revision) {
	for _, f := range r.Files {
		out.Files = append(out.Files, api.File{Path: strings.Clone(f.Path), Bytes: strings.Clone(f.Bytes)})
	}
	return out
}

// found returns the entity that Find has to return.
func found(l []draft, kind int, pkg, name string) api.Entity {
	e := api.Entity{Package: pkg, Name: name, Kind: kind}
	if kind == api.DeclGen {
		e.Package = ""
	}
	for _, d := range l {
		at := slices.Index(d.decls, declared{kind, name})
		if at < 0 || !d.isOf(d.pkg) || kind != api.DeclGen && d.pkg != pkg {
			continue
		}
		if e.Count == 0 {
			e.Package, e.Place, e.Index = d.pkg, d.path, at
		}
		e.Count++
	}
	return e
}

// allFound returns the entities of some packages and names that Entities has to return.
func allFound(l []draft, pkgs, names []string) (all []api.Entity) {
	add := func(kind int, pkg, name string) {
		if e := found(l, kind, pkg, name); e.Count > 0 {
			all = append(all, e)
		}
	}
	for _, pkg := range ascending(pkgs) {
		for _, kind := range []int{api.DeclFunc, api.DeclTest} {
			for _, name := range ascending(names) {
				add(kind, pkg, name)
			}
		}
	}
	for _, name := range ascending(names) {
		add(api.DeclGen, "", name)
	}
	return all
}

// ascending returns strings bytewise, each once.
func ascending(l []string) []string {
	l = slices.Clone(l)
	slices.SortFunc(l, cmp.Compare[string])
	return slices.Compact(l)
}

// dice gives numbers that look random and are the same in every run.
type dice uint64

// roll returns a number from 0 to n - 1.
func (d *dice) roll(n int) int {
	*d = *d*6364136223846793005 + 1442695040888963407
	return int(uint64(*d)>>33) % n
}

// pick returns one of some strings.
func (d *dice) pick(l ...string) string { return l[d.roll(len(l))] }

// often returns one of some strings, the first ones most often.
func (d *dice) often(l []string) string { return l[d.roll(1+d.roll(1+d.roll(len(l))))] }

// Paths, packages and names of drafts: many are neighbours in the order, or parts of each other or of words of the grammar.
var (
	sourcePaths = strings.Fields("..src a.src a/b.src a/.src a0.src a_.src aa.src b.src src.src z/y/x.src")
	dataPaths   = strings.Fields(".src a a.dat a.srcs a.src/b asrc b.srx src zz")
	pkgs        = strings.Fields("p pp p_ p0 a packages t q")
	names       = strings.Fields("f ff f_ f0 t te tests g a b p funcs q")
	gens        = strings.Fields("f g a.dat a.src a/b a/b.src a a_ a0 if . q")
)

// drafts returns drafts of a revision with some of the paths, ascending.
func (d *dice) drafts() (l []draft) {
	for _, path := range ascending(slices.Concat(sourcePaths, dataPaths)) {
		if d.roll(3) > 0 {
			l = append(l, d.draft(path))
		}
	}
	return l
}

// draft returns a draft of a file: for a data path one of data, though its bytes are those of a source file.
func (d *dice) draft(path string) draft {
	x := draft{path: path, data: slices.Contains(dataPaths, path), pkg: d.often(pkgs)}
	for _, pkg := range pkgs {
		if pkg != x.pkg && d.roll(6) == 0 {
			x.imports = append(x.imports, pkg)
		}
	}
	for range d.roll(12) {
		n := declared{api.DeclFunc + d.roll(3), d.often(names)}
		if n.kind == api.DeclGen {
			n.name = d.often(gens)
		}
		if !slices.Contains(x.decls, n) {
			x.decls = append(x.decls, n)
		}
	}
	x.bytes = d.spread(written(x.source()))
	if !x.data && d.roll(5) == 0 {
		x.broken = true
		x.bytes = d.breaks(x)
	}
	return x
}

// spread puts blanks and comments, with declarations in them, between the lines of a text.
func (d *dice) spread(s string) string {
	return strings.ReplaceAll(s, "\n", d.pick("", " ", "\n", "\r\n\t", "# package q; func f() = 1;\n", "\n#;\n# gen \"a/b\" = 1; test t = 1;\n"))
}

// breaks returns bytes that source.Parse refuses.
func (d *dice) breaks(x draft) string {
	s := x.bytes
	s = d.pick("", "$"+s, s+"$", s+";", s+"test", s[:len("packa")], "package "+s, s+"test t = 1; test t = 2;", s+"func f(a, a) = a;", s+"test t = "+strings.Repeat("a", api.MaxName+1)+"();", s+"test t = 9007199254740993;", s+"# "+strings.Repeat("x", api.MaxBytes-2-len(s)-len("\n;"))+"\n;")
	if _, _, e := source.Parse(s); e == api.OK {
		panic("not broken: " + s)
	}
	return s
}

// wantAll compares all functions with what the drafts of a revision say.
func wantAll(t *testing.T, l []draft) {
	t.Helper()
	r := revisionOf(l)
	before := copyOf(r)
	wantFiles(t, r, l)
	wantEntities(t, r, l)
	if !slices.Equal(r.Files, before.Files) {
		t.Errorf("the revision %q was changed to %q", before, r)
	}
}

// wantFiles compares Source, Broken, Names and Files.
func wantFiles(t *testing.T, r api.Revision, l []draft) {
	t.Helper()
	var broken, all []string
	for _, d := range l {
		want, ok := api.Source{}, !d.data && !d.broken
		if ok {
			want, all = d.source(), append(all, d.pkg)
		} else if d.broken {
			broken = append(broken, d.path)
		}
		if f, is := packages.Source(r, d.path); is != ok || !source.Same(f, want) {
			t.Errorf("Source of %s in %q: %v, %t", d.path, r, f, is)
		}
	}
	if got := packages.Broken(r); !slices.Equal(got, broken) {
		t.Errorf("Broken of %q: %q instead of %q", r, got, broken)
	}
	if got := packages.Names(r); !slices.Equal(got, ascending(all)) {
		t.Errorf("Names of %q: %q instead of %q", r, got, ascending(all))
	}
	for _, pkg := range append(slices.Clone(pkgs), "", "package", "x", "#", "P") {
		var want []api.File
		for _, d := range l {
			if d.isOf(pkg) {
				want = append(want, api.File{Path: d.path, Bytes: d.bytes})
			}
		}
		if got := packages.Files(r, pkg); !slices.Equal(got, want) {
			t.Errorf("Files of %q in %q: %q instead of %q", pkg, r, got, want)
		}
	}
}

// wantEntities compares Find, Entities, Decl and Tests.
func wantEntities(t *testing.T, r api.Revision, l []draft) {
	t.Helper()
	for _, kind := range []int{api.DeclFunc, api.DeclTest, api.DeclGen, 0, 4} {
		for _, pkg := range append(slices.Clone(pkgs), "", "x") {
			for _, name := range slices.Concat(names, gens, []string{"", "x", "func", "1"}) {
				if got, want := packages.Find(r, kind, pkg, name), found(l, kind, pkg, name); got != want {
					t.Errorf("Find of %d, %q, %q in %q: %v instead of %v", kind, pkg, name, r, got, want)
				}
			}
		}
	}
	want := allFound(l, pkgs, slices.Concat(names, gens))
	if got := packages.Entities(r); !slices.Equal(got, want) {
		t.Errorf("Entities of %q: %v instead of %v", r, got, want)
	}
	var tests []api.Name
	for _, e := range want {
		if e.Kind == api.DeclTest && e.Count == 1 {
			tests = append(tests, api.Name{Package: e.Package, Test: e.Name})
		}
		at := slices.IndexFunc(l, func(d draft) bool { return d.path == e.Place })
		if f, i, ok := packages.Decl(r, e); !ok || i != e.Index || !source.Same(f, l[at].source()) {
			t.Errorf("Decl of %v in %q: %v, %d, %t", e, r, f, i, ok)
		}
	}
	if got := packages.Tests(r); !slices.Equal(got, tests) {
		t.Errorf("Tests of %q: %v instead of %v", r, got, tests)
	}
}

// wantNothing checks that all functions return zero values for a revision, whatever their other arguments are.
func wantNothing(t *testing.T, name string, r api.Revision) {
	t.Helper()
	before := copyOf(r)
	if n := len(packages.Broken(r)) + len(packages.Names(r)) + len(packages.Entities(r)) + len(packages.Tests(r)); n > 0 {
		t.Errorf("%s has %d broken files, packages, entities and tests", name, n)
	}
	for _, s := range []string{"a.src", "b.src", "f00.src", "p", "t", "g", "", "A"} {
		if f, ok := packages.Source(r, s); ok || !source.Same(f, api.Source{}) {
			t.Errorf("%s: Source of %q is %v, %t", name, s, f, ok)
		}
		if l := packages.Files(r, s); len(l) > 0 {
			t.Errorf("%s: Files of %q is %q", name, s, l)
		}
		for kind := -1; kind < 5; kind++ {
			for _, other := range []string{"f", "t", "g", "x", ""} {
				if e := packages.Find(r, kind, s, other); e != (api.Entity{}) {
					t.Errorf("%s: Find of %d, %q, %q is %v", name, kind, s, other, e)
				}
				if f, i, ok := packages.Decl(r, api.Entity{Package: "p", Name: other, Kind: kind, Place: s, Count: 1}); ok || i != 0 || !source.Same(f, api.Source{}) {
					t.Errorf("%s: Decl of %q is %v, %d, %t", name, s, f, i, ok)
				}
			}
		}
	}
	if !slices.Equal(r.Files, before.Files) {
		t.Errorf("%s was changed", name)
	}
}

// overlap tells whether two strings have memory in common.
func overlap(a, b string) bool {
	if a == "" || b == "" {
		return false
	}
	x, y := uintptr(unsafe.Pointer(unsafe.StringData(a))), uintptr(unsafe.Pointer(unsafe.StringData(b)))
	return x < y+uintptr(len(b)) && y < x+uintptr(len(a))
}
