package evaluate

import "testgate/api"

// frame is a declaration that is being evaluated with arguments.
type frame struct {
	m    *machine
	unit unit
	args []int
}

// kindsOfNodes returns how a node of each kind is evaluated.
func kindsOfNodes() map[int]func(f *frame, n api.Expr) int {
	return map[int]func(f *frame, n api.Expr) int{
		api.ExprNumber: (*frame).number,
		api.ExprParam:  (*frame).param,
		api.ExprCall:   (*frame).call,
		api.ExprBinary: (*frame).binary,
		api.ExprIf:     (*frame).choice,
		api.ExprRead:   (*frame).read,
		api.ExprSize:   (*frame).size,
		api.ExprHas:    (*frame).has,
		api.ExprEnv:    (*frame).env,
		api.ExprFlip:   (*frame).flip,
	}
}

// value evaluates the node with an index.
func (f *frame) value(i int) int {
	f.m.step()
	n := f.unit.decl.Body[i]
	return f.m.kinds[n.Kind](f, n)
}

func (f *frame) number(n api.Expr) int { return n.Number }

func (f *frame) param(n api.Expr) int { return f.args[n.Number] }

func (f *frame) call(n api.Expr) int {
	u := f.m.called(f.unit, n.Name)
	var args []int
	for _, i := range n.Args {
		args = append(args, f.value(i))
	}
	if len(args) != len(u.decl.Params) {
		fail(api.ErrArity)
	}
	return f.m.enter(u, args)
}

func (f *frame) binary(n api.Expr) int {
	left := f.value(n.Args[0])
	right := f.value(n.Args[1])
	v := applied(n.Op, left, right)
	if !inRange(v) {
		fail(api.ErrRange)
	}
	return v
}

func (f *frame) choice(n api.Expr) int {
	if f.value(n.Args[0]) != 0 {
		return f.value(n.Args[1])
	}
	return f.value(n.Args[2])
}

func (f *frame) read(n api.Expr) int {
	d := f.m.used(n.Name)
	i := f.value(n.Args[0])
	if i < 0 || i >= d.size() {
		fail(api.ErrRange)
	}
	if d.kind == file {
		return int(d.bytes[i])
	}
	return f.m.enter(d.gen, nil) & 255 // modulo 256 also for a negative value
}

func (f *frame) size(n api.Expr) int { return f.m.used(n.Name).size() }

func (f *frame) has(n api.Expr) int { return truth(f.m.asked(n.Name).kind != nothing) }

func (f *frame) env(n api.Expr) int { return f.m.variable(n.Name) }

func (f *frame) flip(n api.Expr) int {
	f.m.random = true
	return int(f.m.word >> n.Number & 1)
}

// applied returns what an operator makes of two values, which may be too great for a value.
func applied(op, a, b int) int {
	if (op == api.OpDiv || op == api.OpMod) && b == 0 {
		fail(api.ErrDivide)
	}
	switch op {
	case api.OpAdd:
		return a + b
	case api.OpSub:
		return a - b
	case api.OpMul:
		return product(a, b)
	case api.OpDiv:
		return a / b
	case api.OpMod:
		return a % b
	case api.OpLess:
		return truth(a < b)
	}
	return truth(a == b)
}

// product multiplies two values. It divides first, since the product may be too great for an int.
func product(a, b int) int {
	if a != 0 && abs(b) > api.MaxValue/abs(a) {
		fail(api.ErrRange)
	}
	return a * b
}

func abs(v int) int { return max(v, -v) }

// truth returns the value of a condition.
func truth(is bool) int {
	if is {
		return 1
	}
	return 0
}
