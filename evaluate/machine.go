package evaluate

import (
	"cmp"
	"maps"
	"slices"
	"strings"

	"testgate/api"
	"testgate/packages"
	"testgate/resolve"
	"testgate/revision"
)

// unit is a declaration with the file in which its names are looked up.
type unit struct {
	place string
	file  api.Source
	decl  api.Decl
}

// site is a name that is called in a file.
type site struct{ place, name string }

// Kinds of what a path means.
const (
	nothing = iota
	file
	generated
)

// datum is what a path means: the bytes of a file, or a gen. With the error, it can only be asked for.
type datum struct {
	kind  int
	bytes string
	gen   unit
	e     api.Errno
}

// machine is the state of a run. What was looked up is kept until its end, since look-ups parse files and a run may repeat them in each of its steps.
type machine struct {
	revision api.Revision
	env      api.Environment
	word     uint64
	kinds    map[int]func(f *frame, n api.Expr) int
	calls    map[site]unit
	paths    map[string]datum
	trace    map[api.Key]bool
	depth    int // how many declarations are being evaluated
	steps    int
	random   bool
}

func newMachine(r api.Revision, env api.Environment, word uint64) *machine {
	return &machine{
		revision: r, env: env, word: word, kinds: kindsOfNodes(),
		calls: map[site]unit{}, paths: map[string]datum{}, trace: map[api.Key]bool{},
	}
}

// run evaluates the first declaration of a run.
func (m *machine) run(u unit, args []int) api.Run {
	result := m.result(u, args)
	return api.Run{Result: result, Random: m.random, Trace: slices.SortedFunc(maps.Keys(m.trace), compareKeys), Steps: m.steps}
}

// result returns what the value of a declaration means, or the error that ended the run.
func (m *machine) result(u unit, args []int) (result api.Result) {
	defer func() {
		if e, ok := recover().(api.Errno); ok {
			result = api.Result{Kind: api.Broken, Error: e}
		}
	}()
	if v := m.enter(u, args); v != 0 {
		return api.Result{Kind: api.Passed, Value: v}
	}
	return api.Result{Kind: api.Failed}
}

// fail ends the run with an error.
func fail(e api.Errno) {
	panic(e)
}

// enter evaluates the body of a declaration.
func (m *machine) enter(u unit, args []int) int {
	if m.depth == api.MaxDepth {
		fail(api.ErrDepth)
	}
	m.depth++
	f := frame{m, u, args}
	v := f.value(len(u.decl.Body) - 1)
	m.depth--
	return v
}

// step counts a step.
func (m *machine) step() {
	if m.steps == api.MaxSteps {
		fail(api.ErrSteps)
	}
	m.steps++
}

// lookAt adds keys to the trace.
func (m *machine) lookAt(keys ...api.Key) {
	for _, k := range keys {
		m.trace[k] = true
	}
}

// called returns the function that a name means in the file of a declaration.
func (m *machine) called(u unit, name string) unit {
	at := site{u.place, name}
	if found, ok := m.calls[at]; ok {
		return found
	}
	x, keys, e := resolve.Call(m.revision, u.file, name)
	m.lookAt(keys...)
	if e != api.OK {
		fail(e)
	}
	m.calls[at] = m.declared(x)
	return m.calls[at]
}

// asked returns what a path means, also if it is nothing or ambiguous.
func (m *machine) asked(path string) datum {
	if d, ok := m.paths[path]; ok {
		return d
	}
	kind, x, keys, e := resolve.Data(m.revision, path)
	m.lookAt(keys...)
	d := datum{kind: kind, e: e}
	switch kind {
	case file:
		d.bytes, _ = revision.Find(m.revision, path)
	case generated:
		d.gen = m.declared(x)
	}
	m.paths[path] = d
	return d
}

// used returns the file or the gen that a path means.
func (m *machine) used(path string) datum {
	d := m.asked(path)
	if d.e != api.OK {
		fail(d.e)
	}
	return d
}

// size returns the number of bytes that can be read.
func (d datum) size() int {
	if d.kind == file {
		return len(d.bytes)
	}
	return 1
}

// declared returns the declaration of an entity that was found in the revision.
func (m *machine) declared(x api.Entity) unit {
	f, i, _ := packages.Decl(m.revision, x)
	return unit{x.Place, f, f.Decls[i]}
}

// variable returns the value of a variable.
func (m *machine) variable(name string) int {
	m.lookAt(api.Key{Kind: api.KeyEnv, A: name})
	v, ok := Variable(m.env, name)
	if !ok {
		fail(api.ErrEnv)
	}
	return v
}

// compareKeys orders keys.
func compareKeys(a, b api.Key) int {
	return cmp.Or(cmp.Compare(a.Kind, b.Kind), strings.Compare(a.A, b.A), strings.Compare(a.B, b.B))
}
