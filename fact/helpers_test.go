package fact_test

import (
	"encoding/binary"
	"fmt"
	"maps"
	"slices"
	"strings"
	"testing"
	"unsafe"

	"testgate/api"
	"testgate/fact"
	"testgate/revision"
)

// draft is what a file of a revision is to be: a source file of a package with declarations; if it is hidden, it is broken. Without a package, it has the bytes alone, which no source file has. With the path of a data file, it is data with the same text.
type draft struct {
	path, bytes string
	pkg         string
	imports     []string
	hidden      bool
	blank       string // between the words
	decls       []declared
}

// declared is a declaration; the parameters and the body are as in a canonical text.
type declared struct {
	kind               int
	name, params, body string
}

// line returns the line of a declaration in a canonical text, with another body.
func (x declared) line(body string) string {
	switch x.kind {
	case api.DeclFunc:
		return "func " + x.name + "(" + x.params + ") = " + body + ";\n"
	case api.DeclTest:
		return "test " + x.name + " = " + body + ";\n"
	}
	return "gen \"" + x.name + "\" = " + body + ";\n"
}

// head returns the lines of a canonical text before that of the declaration.
func (d draft) head() string {
	s := "package " + d.pkg + ";\n"
	for _, pkg := range d.imports {
		s += "import " + pkg + ";\n"
	}
	return s
}

// text returns the bytes of the file.
func (d draft) text() string {
	if d.pkg == "" {
		return d.bytes
	}
	s := d.head()
	for _, x := range d.decls {
		s += x.line("((" + x.body + "))")
	}
	s = strings.ReplaceAll(s, " ", d.blank) + d.bytes
	if d.hidden && revision.IsSource(d.path) {
		s += "\n$"
	}
	return s
}

// given is a revision and an environment, as drafts and variables.
type given struct {
	l    []draft // in order
	vars map[string]int
}

func (g given) revision() (r api.Revision) {
	for _, d := range g.l {
		r.Files = append(r.Files, api.File{Path: d.path, Bytes: d.text()})
	}
	return r
}

func (g given) environment() (env api.Environment) {
	for _, name := range slices.Sorted(maps.Keys(g.vars)) {
		env.Variables = append(env.Variables, api.Variable{Name: name, Value: g.vars[name]})
	}
	return env
}

// sources returns the drafts of source files that are not broken.
func (g given) sources() []draft {
	return slices.DeleteFunc(slices.Clone(g.l), func(d draft) bool { return d.hidden || d.pkg == "" || !revision.IsSource(d.path) })
}

// content returns what Content has to return, in the words of the document.
func (g given) content(k api.Key) string {
	switch k.Kind {
	case api.KeyData:
		for _, d := range g.l {
			if d.path == k.A {
				return "=" + d.text()
			}
		}
		return "-"
	case api.KeyEnv:
		if v, set := g.vars[k.A]; set {
			return fmt.Sprint("=", v)
		}
		return "-"
	case api.KeyFiles:
		return "=" + packed(g.files(k.A)...)
	case api.KeyTree:
		var l []string
		for _, pkg := range g.tree(k.A) {
			l = append(l, pkg, g.content(api.Key{Kind: api.KeyFiles, A: pkg}))
		}
		return "=" + packed(l...)
	}
	switch texts := g.texts(k); len(texts) {
	case 0:
		return "-"
	case 1:
		return "=" + texts[0]
	}
	return "?"
}

// contents returns what Contents has to return.
func (g given) contents(keys []api.Key) (l []string) {
	for _, k := range keys {
		l = append(l, g.content(k))
	}
	return l
}

// texts returns the canonical texts of all declarations that a key names.
func (g given) texts(k api.Key) (l []string) {
	for _, d := range g.sources() {
		for _, x := range d.decls {
			function := k.Kind == api.KeyFunc && x.kind == api.DeclFunc && d.pkg == k.A && x.name == k.B
			test := k.Kind == api.KeyTest && x.kind == api.DeclTest && d.pkg == k.A && x.name == k.B
			gen := k.Kind == api.KeyGen && x.kind == api.DeclGen && x.name == k.A
			if function || test || gen {
				l = append(l, d.head()+x.line(x.body))
			}
		}
	}
	return l
}

// files returns the paths and bytes of the files of a package, which take turns.
func (g given) files(pkg string) (l []string) {
	for _, d := range g.sources() {
		if d.pkg == pkg {
			l = append(l, d.path, d.text())
		}
	}
	return l
}

// tree returns the packages of a tree: as long as a file of one of them imports another one, that is one more.
func (g given) tree(pkg string) []string {
	in := map[string]bool{pkg: true}
	for before := 0; before < len(in); {
		before = len(in)
		for _, d := range g.sources() {
			for _, name := range d.imports {
				in[name] = in[name] || in[d.pkg]
			}
		}
		maps.DeleteFunc(in, func(_ string, is bool) bool { return !is })
	}
	return slices.Sorted(maps.Keys(in))
}

// packed returns strings as chapter 3 writes them.
func packed(l ...string) string {
	var out []byte
	for _, s := range l {
		out = append(binary.AppendUvarint(out, uint64(len(s))), s...)
	}
	return string(out)
}

// of returns a revision of paths and bytes that take turns, in order.
func of(l ...string) (r api.Revision) {
	for i := 0; i < len(l); i += 2 {
		r.Files = append(r.Files, api.File{Path: l[i], Bytes: l[i+1]})
	}
	return r
}

// copyOf returns a revision that shares no memory with r.
func copyOf(r api.Revision) (out api.Revision) {
	for _, f := range r.Files {
		out.Files = append(out.Files, api.File{Path: strings.Clone(f.Path), Bytes: strings.Clone(f.Bytes)})
	}
	return out
}

// overlap tells whether two strings have memory in common.
func overlap(a, b string) bool {
	if a == "" || b == "" {
		return false
	}
	x, y := uintptr(unsafe.Pointer(unsafe.StringData(a))), uintptr(unsafe.Pointer(unsafe.StringData(b)))
	return x < y+uintptr(len(b)) && y < x+uintptr(len(a))
}

// unchanged returns a function that checks that a revision, an environment and keys are as they are now.
func unchanged(t *testing.T, r api.Revision, env api.Environment, l []api.Key) func() {
	t.Helper()
	before, vars, keys := copyOf(r), slices.Clone(env.Variables), slices.Clone(l)
	return func() {
		t.Helper()
		if !slices.Equal(r.Files, before.Files) || !slices.Equal(env.Variables, vars) || !slices.Equal(l, keys) {
			t.Errorf("%.300q, %v, %v was changed to %.300q, %v, %v", before, vars, keys, r, env, l)
		}
	}
}

// contents returns what Contents returns for keys that are well-formed, and checks that its arguments are as before.
func contents(t *testing.T, r api.Revision, env api.Environment, l []api.Key) []string {
	t.Helper()
	defer unchanged(t, r, env, l)()
	texts, e := fact.Contents(r, env, l)
	if e != api.OK || len(texts) != len(l) {
		t.Fatalf("Contents of %v at %.300q in %v: %.300q, error %d", l, r, env, texts, e)
	}
	return texts
}

// holds returns what Holds returns for keys that are well-formed, and checks that its arguments are as before.
func holds(t *testing.T, r api.Revision, env api.Environment, l []api.Key, texts []string) int {
	t.Helper()
	defer unchanged(t, r, env, l)()
	before := slices.Clone(texts)
	at, e := fact.Holds(r, env, l, texts)
	if e != api.OK || !slices.Equal(texts, before) {
		t.Errorf("Holds of %v and %.300q at %.300q in %v: error %d, and the texts are %.300q", l, before, r, env, e, texts)
	}
	return at
}

// key returns a key of a kind and its names in a text, like "func p f".
func key(s string) api.Key {
	kinds := map[string]int{"func": api.KeyFunc, "test": api.KeyTest, "gen": api.KeyGen, "data": api.KeyData, "env": api.KeyEnv, "files": api.KeyFiles, "tree": api.KeyTree}
	parts := append(strings.Fields(s), "")
	return api.Key{Kind: kinds[parts[0]], A: parts[1], B: parts[2]}
}
