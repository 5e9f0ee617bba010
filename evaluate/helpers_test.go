package evaluate_test

import (
	"fmt"
	"maps"
	"slices"
	"strings"
	"testing"
	"unsafe"

	"testgate/api"
	"testgate/evaluate"
	"testgate/revision"
)

// tree is an expression: a node with its operands.
type tree struct {
	kind, number, op int
	name             string
	args             []tree
}

// signs has the sign of each operator.
var signs = [...]string{api.OpAdd: "+", api.OpSub: "-", api.OpMul: "*", api.OpDiv: "/", api.OpMod: "%", api.OpLess: "<", api.OpEqual: "=="}

// text writes an expression as it stands in a declaration with these parameters.
func (x tree) text(params []string) string {
	var l []string
	for _, arg := range x.args {
		l = append(l, arg.text(params))
	}
	switch x.kind {
	case api.ExprNumber:
		return fmt.Sprint(x.number)
	case api.ExprParam:
		return params[x.number]
	case api.ExprCall:
		return x.name + "(" + strings.Join(l, ", ") + ")"
	case api.ExprBinary:
		return "(" + l[0] + " " + signs[x.op] + " " + l[1] + ")"
	case api.ExprIf:
		return "(if " + l[0] + " then " + l[1] + " else " + l[2] + ")"
	case api.ExprRead:
		return fmt.Sprintf("read(%q, %s)", x.name, l[0])
	case api.ExprSize:
		return fmt.Sprintf("size(%q)", x.name)
	case api.ExprHas:
		return fmt.Sprintf("has(%q)", x.name)
	case api.ExprEnv:
		return fmt.Sprintf("env(%q)", x.name)
	default:
		return fmt.Sprintf("flip(%d)", x.number)
	}
}

// draft is what a file of a revision is to be: a source file of a package with declarations; if it is hidden, it is broken or data with the same text. Without a package, it has the bytes alone.
type draft struct {
	path, bytes string
	pkg         string
	imports     []string
	hidden      bool
	decls       []declared
}

// declared is a declaration.
type declared struct {
	kind   int
	name   string
	params []string
	body   tree
}

// text returns the bytes of the file.
func (d draft) text() string {
	if d.pkg == "" {
		return d.bytes
	}
	s := "package " + d.pkg + ";"
	for _, pkg := range d.imports {
		s += " import " + pkg + ";"
	}
	for _, x := range d.decls {
		body := x.body.text(x.params)
		switch x.kind {
		case api.DeclFunc:
			s += fmt.Sprintf(" func %s(%s) = %s;", x.name, strings.Join(x.params, ", "), body)
		case api.DeclTest:
			s += fmt.Sprintf(" test %s = %s;", x.name, body)
		case api.DeclGen:
			s += fmt.Sprintf(" gen %q = %s;", x.name, body)
		}
	}
	s += d.bytes
	if d.hidden && revision.IsSource(d.path) {
		s += "$"
	}
	return s
}

// revisionOf returns the revision of drafts that are in order.
func revisionOf(l []draft) (r api.Revision) {
	for _, d := range l {
		r.Files = append(r.Files, api.File{Path: d.path, Bytes: d.text()})
	}
	return r
}

// of returns a revision of paths and bytes that take turns, in order.
func of(l ...string) (r api.Revision) {
	for i := 0; i < len(l); i += 2 {
		r.Files = append(r.Files, api.File{Path: l[i], Bytes: l[i+1]})
	}
	return r
}

// environment returns an environment of some variables.
func environment(vars map[string]int) (env api.Environment) {
	for _, name := range slices.Sorted(maps.Keys(vars)) {
		env.Variables = append(env.Variables, api.Variable{Name: name, Value: vars[name]})
	}
	return env
}

// copyOf returns a revision that shares no memory with r.
func copyOf(r api.Revision) (out api.Revision) {
	for _, f := range r.Files {
		out.Files = append(out.Files, api.File{Path: strings.Clone(f.Path), Bytes: strings.Clone(f.Bytes)})
	}
	return out
}

// overlap tells whether two strings have memory in common.
func overlap(a, b string) bool {
	if a == "" || b == "" {
		return false
	}
	x, y := uintptr(unsafe.Pointer(unsafe.StringData(a))), uintptr(unsafe.Pointer(unsafe.StringData(b)))
	return x < y+uintptr(len(b)) && y < x+uintptr(len(a))
}

// answer is what Run or Call returns; for Run the value is 0.
type answer struct {
	v   int
	run api.Run
	e   api.Errno
}

// String writes an answer so that every name can be read.
func (a answer) String() string {
	s := fmt.Sprintf("value %d, error %d, result %v, random %t, %d steps, keys", a.v, a.e, a.run.Result, a.run.Random, a.run.Steps)
	for _, k := range a.run.Trace {
		s += fmt.Sprintf(" (%d %q %q)", k.Kind, k.A, k.B)
	}
	return s
}

// same compares answers; nil and no keys are the same.
func (a answer) same(b answer) bool {
	return a.v == b.v && a.e == b.e && a.run.Result == b.run.Result && a.run.Random == b.run.Random && a.run.Steps == b.run.Steps && slices.Equal(a.run.Trace, b.run.Trace)
}

// given is all that Run and Call have in common.
type given struct {
	r    api.Revision
	env  api.Environment
	word uint64
}

// run returns the answer of Run, and checks that its arguments are as before.
func (g given) run(t *testing.T, pkg, test string) (a answer) {
	t.Helper()
	defer g.unchanged(t)()
	a.run, a.e = evaluate.Run(g.r, g.env, g.word, api.Name{Package: pkg, Test: test})
	return a
}

// call returns the answer of Call, and checks that its arguments are as before.
func (g given) call(t *testing.T, pkg, name string, args ...int) (a answer) {
	t.Helper()
	defer g.unchanged(t)()
	before := slices.Clone(args)
	a.v, a.run, a.e = evaluate.Call(g.r, g.env, g.word, pkg, name, args)
	if !slices.Equal(args, before) {
		t.Errorf("arguments %v were changed to %v", before, args)
	}
	return a
}

// unchanged returns a function that checks that the revision and the environment are as they are now.
func (g given) unchanged(t *testing.T) func() {
	t.Helper()
	r, vars := copyOf(g.r), slices.Clone(g.env.Variables)
	return func() {
		t.Helper()
		if !revision.Same(g.r, r) || !slices.Equal(g.env.Variables, vars) {
			t.Errorf("%q or %v was changed to %q or %v", r, vars, g.r, g.env)
		}
	}
}

// keys returns keys of which each has a kind and its names in a text, like "func p f".
func keys(l ...string) (out []api.Key) {
	kinds := map[string]int{"func": api.KeyFunc, "test": api.KeyTest, "gen": api.KeyGen, "data": api.KeyData, "env": api.KeyEnv}
	for _, s := range l {
		parts := append(strings.Fields(s), "")
		out = append(out, api.Key{Kind: kinds[parts[0]], A: parts[1], B: parts[2]})
	}
	return out
}

// passed is the result of a test with a value other than 0, failed that of one with 0, and broken that of one with an error.
func passed(v int) api.Result       { return api.Result{Kind: api.Passed, Value: v} }
func broken(e api.Errno) api.Result { return api.Result{Kind: api.Broken, Error: e} }

var failed = api.Result{Kind: api.Failed}

// resultOf returns the result of a value, which may be 0.
func resultOf(v int) api.Result {
	if v == 0 {
		return failed
	}
	return passed(v)
}
