package evaluate_test

import (
	"cmp"
	"math/big"
	"slices"
	"strings"

	"testgate/api"
	"testgate/revision"
)

// model evaluates drafts in the words of the document: with their trees instead of their texts, errors as results, and numbers of any size.
type model struct {
	l            []draft // in order
	vars         map[string]int
	word, used   uint64 // used has the bits of the word that were used
	depth, steps int
	random       bool
	trace        map[api.Key]bool
}

// entity returns the first draft and the declaration of a kind with a name in a package (or in any, for a gen), and how many there are.
func (m *model) entity(kind int, pkg, name string) (in draft, x declared, count int) {
	for _, d := range m.l {
		if d.hidden || d.pkg == "" || kind != api.DeclGen && d.pkg != pkg {
			continue
		}
		for _, y := range d.decls {
			if y.kind == kind && y.name == name {
				if count == 0 {
					in, x = d, y
				}
				count++
			}
		}
	}
	return in, x, count
}

func (m *model) look(kind int, a, b string) { m.trace[api.Key{Kind: kind, A: a, B: b}] = true }

// answer evaluates the first declaration of a run, which has this key.
func (m *model) answer(k api.Key, args ...int) (a answer) {
	m.trace = map[api.Key]bool{k: true}
	kind := api.DeclTest
	if k.Kind == api.KeyFunc {
		kind = api.DeclFunc
	}
	in, x, count := m.entity(kind, k.A, k.B)
	if count != 1 {
		return answer{e: api.ErrUnknown}
	}
	if len(args) != len(x.params) {
		return answer{e: api.ErrArity}
	}
	v, e := m.body(in, x, args)
	a.run.Result = broken(e)
	if e == api.OK {
		a.run.Result = resultOf(v)
	}
	if k.Kind == api.KeyFunc {
		a.v = a.run.Result.Value
	}
	a.run.Random, a.run.Steps = m.random, m.steps
	for k := range m.trace {
		a.run.Trace = append(a.run.Trace, k)
	}
	slices.SortFunc(a.run.Trace, func(a, b api.Key) int {
		return cmp.Or(cmp.Compare(a.Kind, b.Kind), strings.Compare(a.A, b.A), strings.Compare(a.B, b.B))
	})
	return a
}

// body evaluates the body of a declaration of a draft.
func (m *model) body(in draft, x declared, args []int) (int, api.Errno) {
	if m.depth == api.MaxDepth {
		return 0, api.ErrDepth
	}
	m.depth++
	v, e := m.value(in, args, x.body)
	m.depth--
	return v, e
}

// value evaluates an expression of a draft.
func (m *model) value(in draft, args []int, x tree) (int, api.Errno) {
	if m.steps == api.MaxSteps {
		return 0, api.ErrSteps
	}
	m.steps++
	switch x.kind {
	case api.ExprNumber:
		return x.number, api.OK
	case api.ExprParam:
		return args[x.number], api.OK
	case api.ExprCall:
		return m.call(in, args, x)
	case api.ExprIf:
		v, e := m.value(in, args, x.args[0])
		if e != api.OK {
			return 0, e
		}
		if v == 0 {
			return m.value(in, args, x.args[2])
		}
		return m.value(in, args, x.args[1])
	case api.ExprEnv:
		m.look(api.KeyEnv, x.name, "")
		if v, ok := m.vars[x.name]; ok {
			return v, api.OK
		}
		return 0, api.ErrEnv
	case api.ExprFlip:
		m.random = true
		m.used |= 1 << x.number
		if m.word&(1<<x.number) != 0 {
			return 1, api.OK
		}
		return 0, api.OK
	case api.ExprBinary:
		l, e := m.values(in, args, x.args)
		if e != api.OK {
			return 0, e
		}
		return operate(x.op, l[0], l[1])
	}
	return m.data(in, args, x)
}

// values evaluates expressions up to the first error.
func (m *model) values(in draft, args []int, l []tree) (out []int, e api.Errno) {
	for _, x := range l {
		v, e := m.value(in, args, x)
		if e != api.OK {
			return nil, e
		}
		out = append(out, v)
	}
	return out, api.OK
}

// call evaluates a call.
func (m *model) call(in draft, args []int, x tree) (int, api.Errno) {
	for _, pkg := range append([]string{in.pkg}, in.imports...) {
		m.look(api.KeyFunc, pkg, x.name)
		to, f, count := m.entity(api.DeclFunc, pkg, x.name)
		if count > 1 {
			return 0, api.ErrAmbiguous
		}
		if count == 0 {
			continue
		}
		l, e := m.values(in, args, x.args)
		if e != api.OK {
			return 0, e
		}
		if len(l) != len(f.params) {
			return 0, api.ErrArity
		}
		return m.body(to, f, l)
	}
	return 0, api.ErrName
}

// data evaluates a node that asks for a path.
func (m *model) data(in draft, args []int, x tree) (int, api.Errno) {
	m.look(api.KeyData, x.name, "")
	at := slices.IndexFunc(m.l, func(d draft) bool { return d.path == x.name })
	from, gen, count := m.entity(api.DeclGen, "", x.name)
	size := 1
	if at >= 0 {
		size, count = len(m.l[at].text()), 1
	} else {
		m.look(api.KeyGen, x.name, "")
	}
	if x.kind == api.ExprHas {
		return min(count, 1), api.OK
	}
	if count != 1 {
		return 0, [...]api.Errno{api.ErrData, 0, api.ErrAmbiguous}[min(count, 2)]
	}
	if x.kind == api.ExprSize {
		return size, api.OK
	}
	l, e := m.values(in, args, x.args)
	if e != api.OK {
		return 0, e
	}
	if l[0] < 0 || l[0] >= size {
		return 0, api.ErrRange
	}
	if at >= 0 {
		return int(m.l[at].text()[l[0]]), api.OK
	}
	v, e := m.body(from, gen, nil)
	return ((v % 256) + 256) % 256, e
}

// operate applies an operator.
func operate(op, a, b int) (int, api.Errno) {
	x, y, z := big.NewInt(int64(a)), big.NewInt(int64(b)), new(big.Int)
	if b == 0 && (op == api.OpDiv || op == api.OpMod) {
		return 0, api.ErrDivide
	}
	switch op {
	case api.OpAdd:
		z.Add(x, y)
	case api.OpSub:
		z.Sub(x, y)
	case api.OpMul:
		z.Mul(x, y)
	case api.OpDiv:
		z.Quo(x, y)
	case api.OpMod:
		z.Rem(x, y)
	case api.OpLess:
		if x.Cmp(y) < 0 {
			z.SetInt64(1)
		}
	case api.OpEqual:
		if x.Cmp(y) == 0 {
			z.SetInt64(1)
		}
	}
	if z.CmpAbs(big.NewInt(api.MaxValue)) > 0 {
		return 0, api.ErrRange
	}
	return int(z.Int64()), api.OK
}

// dice gives numbers that look random and are the same in every run.
type dice uint64

// roll returns a number from 0 to n - 1.
func (d *dice) roll(n int) int {
	*d = *d*6364136223846793005 + 1442695040888963407
	return int(uint64(*d)>>33) % n
}

// pick returns one of some strings.
func (d *dice) pick(l []string) string { return l[d.roll(len(l))] }

// What random revisions consist of. Some names are those of functions, tests, packages and variables, and some paths those of files and gens. No function has the last name, no file or gen the last path, and no environment the last variable.
var (
	sourcePaths = strings.Fields("a.src a/b.src m.src p.src q.src z/z.src")
	dataPaths   = strings.Fields("a.dat g p z/a")
	pkgs        = strings.Fields("p q s")
	funcNames   = strings.Fields("f g h k p none")
	testNames   = strings.Fields("t u f")
	paths       = strings.Fields("a.dat g p z/a gen/a gen/b h a.src none")
	varNames    = strings.Fields("os p z if none")
)

// drafts returns drafts of a revision, in order.
func (d *dice) drafts() (l []draft) {
	for _, path := range ascending(slices.Concat(sourcePaths, dataPaths)) {
		if d.roll(5) > 0 {
			l = append(l, d.draft(path))
		}
	}
	return l
}

// ascending returns strings bytewise.
func ascending(l []string) []string {
	slices.Sort(l)
	return l
}

// draft returns a draft of a file with a path.
func (d *dice) draft(path string) draft {
	if !revision.IsSource(path) && d.roll(4) > 0 {
		return draft{path: path, bytes: strings.Repeat(string([]byte{byte(d.roll(256))}), d.roll(4))}
	}
	x := draft{path: path, pkg: d.pick(pkgs), hidden: !revision.IsSource(path) || d.roll(8) == 0, imports: d.imports()}
	x.imports = slices.DeleteFunc(x.imports, func(pkg string) bool { return pkg == x.pkg })
	for range 4 + d.roll(8) {
		x.decls = added(x.decls, d.declared())
	}
	return x
}

// added returns declarations with one more, unless there is one of the same kind with this name.
func added(l []declared, x declared) []declared {
	if slices.ContainsFunc(l, func(y declared) bool { return x.kind == y.kind && x.name == y.name }) {
		return l
	}
	return append(l, x)
}

// imports returns some packages, each once.
func (d *dice) imports() (l []string) {
	for range d.roll(4) {
		if pkg := d.pick(append([]string{"x"}, pkgs...)); !slices.Contains(l, pkg) {
			l = append(l, pkg)
		}
	}
	return l
}

// declared returns a declaration.
func (d *dice) declared() (x declared) {
	switch d.roll(5) {
	case 0:
		x = declared{kind: api.DeclGen, name: d.pick(paths[:len(paths)-1])}
	case 1, 2:
		x = declared{kind: api.DeclTest, name: d.pick(testNames)}
	default:
		at := d.roll(len(funcNames) - 1)
		x = declared{kind: api.DeclFunc, name: funcNames[at], params: []string{"x", "y"}[:d.arity(at)]}
	}
	x.body = d.tree(1+d.roll(4), len(x.params))
	return x
}

// arity returns how many parameters a function has, and how many arguments a call of it: nearly always as many as its name asks for.
func (d *dice) arity(name int) int {
	if d.roll(30) == 0 {
		return d.roll(3)
	}
	return name % 3
}

// number returns a value.
func (d *dice) number() int {
	if d.roll(12) == 0 {
		return (1 - 2*d.roll(2)) * []int{api.MaxValue, api.MaxValue - 1, 1 << 27, 94906266, 256, 255}[d.roll(6)]
	}
	return d.roll(9) - 3
}

// tree returns an expression of at most a depth.
func (d *dice) tree(depth, params int) tree {
	if depth == 0 || d.roll(6) == 0 {
		return d.leaf(params)
	}
	under := func() tree { return d.tree(depth-1, params) }
	switch d.roll(12) {
	case 0, 1, 2:
		return tree{kind: api.ExprBinary, op: api.OpAdd + d.roll(3), args: []tree{under(), under()}}
	case 3, 4:
		return tree{kind: api.ExprBinary, op: api.OpAdd + d.roll(7), args: []tree{under(), under()}}
	case 5, 6, 7:
		return tree{kind: api.ExprIf, args: []tree{under(), under(), under()}}
	case 8:
		return tree{kind: api.ExprRead, name: d.pick(paths[:len(paths)-d.roll(2)]), args: []tree{under()}}
	}
	at := d.roll(len(funcNames) - min(1, d.roll(10)))
	x := tree{kind: api.ExprCall, name: funcNames[at]}
	for range d.arity(at) {
		x.args = append(x.args, under())
	}
	return x
}

// leaf returns an expression without operands.
func (d *dice) leaf(params int) tree {
	switch d.roll(12) {
	case 0:
		return tree{kind: api.ExprSize, name: d.pick(paths[:len(paths)-d.roll(2)])}
	case 1:
		return tree{kind: api.ExprHas, name: d.pick(paths)}
	case 2:
		return tree{kind: api.ExprEnv, name: d.pick(varNames[:len(varNames)-min(1, d.roll(4))])}
	case 3:
		return tree{kind: api.ExprFlip, number: d.roll(64)}
	}
	if params > 0 && d.roll(2) == 0 {
		return tree{kind: api.ExprParam, number: d.roll(params)}
	}
	return tree{kind: api.ExprNumber, number: d.number()}
}

// variables returns the variables of an environment.
func (d *dice) variables() map[string]int {
	l := map[string]int{}
	for _, name := range varNames[:len(varNames)-1] {
		if d.roll(5) > 0 {
			l[name] = d.number()
		}
	}
	return l
}

// bits returns a word.
func (d *dice) bits() uint64 {
	return uint64(d.roll(1<<31))<<33 ^ uint64(d.roll(1<<31))<<16 ^ uint64(d.roll(1<<31))
}
