package resolve_test

import (
	"fmt"
	"slices"
	"strings"
	"unsafe"

	"testgate/api"
)

// draft is what a file of a revision is to be: a source file of a package with declarations; if it is hidden, its text is the same, but nothing in it counts.
type draft struct {
	path, pkg string
	hidden    string // what hides the declarations: "", "broken" or "data"
	decls     []declared
}

// declared is a declaration.
type declared struct {
	kind int
	name string
}

// text returns the bytes of the file.
func (d draft) text() string {
	s := "package " + d.pkg + ";"
	for i, x := range d.decls {
		switch x.kind {
		case api.DeclFunc:
			s += fmt.Sprintf(" func %s() = %d;", x.name, i)
		case api.DeclTest:
			s += fmt.Sprintf(" test %s = %d;", x.name, i)
		case api.DeclGen:
			s += fmt.Sprintf(" gen %q = %d;", x.name, i)
		}
	}
	if d.hidden == "broken" {
		s += " test"
	}
	return s
}

// revisionOf returns the revision of drafts, which need not be in order.
func revisionOf(l ...draft) (r api.Revision) {
	for _, d := range ordered(l) {
		r.Files = append(r.Files, api.File{Path: d.path, Bytes: d.text()})
	}
	return r
}

// ordered returns drafts ascending by their paths.
func ordered(l []draft) []draft {
	return slices.SortedFunc(slices.Values(l), func(a, b draft) int { return strings.Compare(a.path, b.path) })
}

// declaredIn returns the first declaration of a kind with a name in a package (or in any, for a gen), and how many there are.
func declaredIn(l []draft, kind int, pkg, name string) (e api.Entity) {
	for _, d := range ordered(l) {
		at := slices.Index(d.decls, declared{kind, name})
		if at < 0 || d.hidden != "" || kind != api.DeclGen && d.pkg != pkg {
			continue
		}
		if e.Count == 0 {
			e = api.Entity{Package: d.pkg, Name: name, Kind: kind, Place: d.path, Index: at}
		}
		e.Count++
	}
	return e
}

// answer is what Call or Data returns; for Call the kind is 0.
type answer struct {
	kind   int
	entity api.Entity
	keys   []api.Key
	e      api.Errno
}

// String writes an answer so that every name can be read.
func (a answer) String() string {
	s := fmt.Sprintf("kind %d, error %d, entity %v, keys", a.kind, a.e, a.entity)
	for _, k := range a.keys {
		s += fmt.Sprintf(" (%d %q %q)", k.Kind, k.A, k.B)
	}
	return s
}

// same compares answers; nil and no keys are the same.
func (a answer) same(b answer) bool {
	return a.kind == b.kind && a.entity == b.entity && slices.Equal(a.keys, b.keys) && a.e == b.e
}

// callIn returns what Call has to return for a file of the first package that imports the other ones.
func callIn(l []draft, name string, pkgs ...string) answer {
	a := answer{e: api.ErrName}
	for _, pkg := range pkgs {
		a.keys = append(a.keys, api.Key{Kind: api.KeyFunc, A: pkg, B: name})
		if e := declaredIn(l, api.DeclFunc, pkg, name); e.Count == 1 {
			a.entity, a.e = e, api.OK
			return a
		} else if e.Count > 1 {
			a.e = api.ErrAmbiguous
			return a
		}
	}
	return a
}

// dataIn returns what Data has to return.
func dataIn(l []draft, path string) answer {
	fileKey, genKey := api.Key{Kind: api.KeyData, A: path}, api.Key{Kind: api.KeyGen, A: path}
	if slices.ContainsFunc(l, func(d draft) bool { return d.path == path }) {
		return answer{kind: 1, keys: []api.Key{fileKey}}
	}
	both := []api.Key{fileKey, genKey}
	switch e := declaredIn(l, api.DeclGen, "", path); e.Count {
	case 0:
		return answer{keys: both, e: api.ErrData}
	case 1:
		return answer{kind: 2, entity: e, keys: both}
	default:
		return answer{kind: 3, keys: both, e: api.ErrAmbiguous}
	}
}

// dice gives numbers that look random and are the same in every run.
type dice uint64

// roll returns a number from 0 to n - 1.
func (d *dice) roll(n int) int {
	*d = *d*6364136223846793005 + 1442695040888963407
	return int(uint64(*d)>>33) % n
}

// pick returns one of some strings.
func (d *dice) pick(l []string) string { return l[d.roll(len(l))] }

// What random revisions consist of. Some paths are those of files and of gens, and some names are those of functions, tests, packages and gens.
var (
	sourcePaths = strings.Fields("a.src a/b.src f.src g.src p.src q/q.src z/z.src")
	dataPaths   = strings.Fields("a g p.dat z/a")
	pkgs        = strings.Fields("f p pp q")
	names       = strings.Fields("f g ff p if") // no function has the last one
	gens        = strings.Fields("f g a a.src a/b p.dat z")
)

// drafts returns drafts of a revision with some of the paths.
func (d *dice) drafts() (l []draft) {
	for _, path := range sourcePaths {
		if d.roll(4) > 0 {
			x := d.draft(path)
			if d.roll(6) == 0 {
				x.hidden = "broken"
			}
			l = append(l, x)
		}
	}
	for _, path := range dataPaths {
		if d.roll(4) == 0 {
			x := d.draft(path)
			x.hidden = "data"
			l = append(l, x)
		}
	}
	return l
}

// draft returns a draft of a source file that is not broken.
func (d *dice) draft(path string) draft {
	x := draft{path: path, pkg: d.pick(pkgs)}
	for range d.roll(10) {
		n := declared{api.DeclFunc + d.roll(3), d.pick(names[:len(names)-1])}
		if n.kind == api.DeclGen {
			n.name = d.pick(gens)
		}
		if !slices.Contains(x.decls, n) {
			x.decls = append(x.decls, n)
		}
	}
	return x
}

// searched returns some packages, each once: that of a file, and its imports.
func (d *dice) searched() (l []string) {
	for n := 1 + d.roll(4); len(l) < n; {
		if pkg := d.pick(append([]string{"none"}, pkgs...)); !slices.Contains(l, pkg) {
			l = append(l, pkg)
		}
	}
	return l
}

// fileOf returns a file of the first package that imports the other ones.
func fileOf(pkgs ...string) api.Source {
	return api.Source{Package: pkgs[0], Imports: pkgs[1:]}
}

// copyOf returns a revision that shares no memory with r.
func copyOf(r api.Revision) (out api.Revision) {
	for _, f := range r.Files {
		out.Files = append(out.Files, api.File{Path: strings.Clone(f.Path), Bytes: strings.Clone(f.Bytes)})
	}
	return out
}

// overlap tells whether two strings have memory in common.
func overlap(a, b string) bool {
	if a == "" || b == "" {
		return false
	}
	x, y := uintptr(unsafe.Pointer(unsafe.StringData(a))), uintptr(unsafe.Pointer(unsafe.StringData(b)))
	return x < y+uintptr(len(b)) && y < x+uintptr(len(a))
}
