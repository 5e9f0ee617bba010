package source_test

import (
	"fmt"
	"reflect"
	"slices"
	"strings"

	"testgate/api"
)

// dice gives numbers that look random and are the same in every run.
type dice uint64

// roll returns a number from 0 to n - 1.
func (d *dice) roll(n int) int {
	*d = *d*6364136223846793005 + 1442695040888963407
	return int(uint64(*d)>>33) % n
}

// pick returns one of some strings.
func (d *dice) pick(l ...string) string { return l[d.roll(len(l))] }

// tree is an expression with its operands; the Args of its node do not count.
type tree struct {
	node api.Expr
	args []tree
}

// put appends the nodes of a tree in the order in which they end.
func (t tree) put(l []api.Expr) []api.Expr {
	n := t.node
	n.Args = nil
	for _, arg := range t.args {
		l = arg.put(l)
		n.Args = append(n.Args, len(l)-1)
	}
	return append(l, n)
}

// treeOf returns the tree of the last node of a list.
func treeOf(l []api.Expr) tree {
	n := l[len(l)-1]
	t := tree{node: n}
	for _, arg := range n.Args {
		t.args = append(t.args, treeOf(l[:arg+1]))
	}
	return t
}

func number(n int) tree { return tree{node: api.Expr{Kind: api.ExprNumber, Number: n}} }

func param(n int) tree { return tree{node: api.Expr{Kind: api.ExprParam, Number: n}} }

func flip(n int) tree { return tree{node: api.Expr{Kind: api.ExprFlip, Number: n}} }

func choice(a, b, c tree) tree {
	return tree{node: api.Expr{Kind: api.ExprIf}, args: []tree{a, b, c}}
}

// named returns a node of a kind with a name.
func named(kind int, name string, args ...tree) tree {
	return tree{node: api.Expr{Kind: kind, Name: name}, args: args}
}

func call(name string, args ...tree) tree { return named(api.ExprCall, name, args...) }

func binary(op int, a, b tree) tree {
	return tree{node: api.Expr{Kind: api.ExprBinary, Op: op}, args: []tree{a, b}}
}

func function(name string, params []string, t tree) api.Decl {
	return api.Decl{Kind: api.DeclFunc, Name: name, Params: params, Body: t.put(nil)}
}

func test(name string, t tree) api.Decl {
	return api.Decl{Kind: api.DeclTest, Name: name, Body: t.put(nil)}
}

func gen(path string, t tree) api.Decl {
	return api.Decl{Kind: api.DeclGen, Name: path, Body: t.put(nil)}
}

// file returns a source of the package p.
func file(l ...api.Decl) api.Source { return api.Source{Package: "p", Decls: l} }

// tree returns an expression that is nested at most so deeply.
func (d *dice) tree(depth, params int) tree {
	kind := 1 + d.roll(10)
	if d.roll(2) == 0 {
		kind = []int{api.ExprBinary, api.ExprBinary, api.ExprIf}[d.roll(3)]
	}
	if depth == 1 && slices.Contains([]int{api.ExprBinary, api.ExprIf, api.ExprRead}, kind) || kind == api.ExprParam && params == 0 {
		kind = api.ExprNumber
	}
	switch kind {
	case api.ExprNumber:
		return number([]int{0, 1, 7, 10, -1, -20, api.MaxValue, -api.MaxValue}[d.roll(8)])
	case api.ExprParam:
		return param(d.roll(params))
	case api.ExprFlip:
		return flip([]int{0, 9, api.MaxFlips - 1}[d.roll(3)])
	case api.ExprBinary:
		return binary(1+d.roll(7), d.tree(depth-1, params), d.tree(depth-1, params))
	case api.ExprIf:
		return choice(d.tree(depth-1, params), d.tree(depth-1, params), d.tree(depth-1, params))
	case api.ExprRead:
		return named(kind, d.pick("a.dat", "0/_/z.9"), d.tree(depth-1, params))
	case api.ExprCall:
		t := call(d.pick("f", "g_1", "iff", "package_"))
		for range d.roll(4) {
			if depth > 1 {
				t.args = append(t.args, d.tree(depth-1, params))
			}
		}
		return t
	case api.ExprEnv:
		return named(kind, d.pick("os", "if", "x_1"))
	}
	return named(kind, d.pick("b", "if/then", "..", "a/b/c"))
}

// source returns a source that keeps all limits, also if each operand is in parentheses.
func (d *dice) source() api.Source {
	f := api.Source{Package: d.pick("p", "q", "long_name")}
	for i := range d.roll(4) {
		f.Imports = append(f.Imports, fmt.Sprintf("i%d", i))
	}
	for i := range d.roll(5) {
		params := []string{"a", "b", "c_2", "ifs"}[:d.roll(5)]
		switch depth := 1 + d.roll(4); d.roll(3) {
		case 0:
			f.Decls = append(f.Decls, function(fmt.Sprintf("f%d", i), params, d.tree(depth, len(params))))
		case 1:
			f.Decls = append(f.Decls, test(fmt.Sprintf("f%d", i/2), d.tree(depth, 0)))
		default:
			f.Decls = append(f.Decls, gen(fmt.Sprintf("%d/f", i), d.tree(depth, 0)))
		}
	}
	names := map[string]bool{}
	f.Decls = slices.DeleteFunc(f.Decls, func(n api.Decl) bool {
		key := fmt.Sprint(n.Kind, n.Name)
		twice := names[key]
		names[key] = true
		return twice
	})
	return f
}

// words returns the words of a source, with more parentheses, zeros and signs than are needed.
func (d *dice) words(f api.Source) []string {
	l := []string{"package", f.Package, ";"}
	for _, name := range f.Imports {
		l = append(l, "import", name, ";")
	}
	for _, n := range f.Decls {
		switch n.Kind {
		case api.DeclFunc:
			l = append(l, "func", n.Name, "(")
			for i, name := range n.Params {
				if i > 0 {
					l = append(l, ",")
				}
				l = append(l, name)
			}
			l = append(l, ")", "=")
		case api.DeclTest:
			l = append(l, "test", n.Name, "=")
		case api.DeclGen:
			l = append(l, "gen", `"`+n.Name+`"`, "=")
		}
		l = append(d.expr(l, treeOf(n.Body), n.Params, false), ";")
	}
	return l
}

// expr appends the words of an expression, in parentheses as often as the dice say, and at least once if it has to be a factor and is none.
func (d *dice) expr(l []string, t tree, params []string, factor bool) []string {
	pairs := 0
	if factor && (t.node.Kind == api.ExprBinary || t.node.Kind == api.ExprIf) {
		pairs++
	}
	if d.roll(5) == 0 {
		pairs++
	}
	for range pairs {
		l = append(l, "(")
	}
	l = d.bare(l, t, params)
	for range pairs {
		l = append(l, ")")
	}
	return l
}

// bare appends the words of an expression that is in no parentheses itself.
func (d *dice) bare(l []string, t tree, params []string) []string {
	n := t.node
	switch n.Kind {
	case api.ExprNumber:
		if n.Number < 0 || n.Number == 0 && d.roll(2) == 0 {
			l = append(l, "-")
		}
		return append(l, d.pick("", "0", "00")+fmt.Sprint(max(n.Number, -n.Number)))
	case api.ExprParam:
		return append(l, params[n.Number])
	case api.ExprFlip:
		return append(l, "flip", "(", d.pick("", "00")+fmt.Sprint(n.Number), ")")
	case api.ExprBinary:
		l = d.expr(l, t.args[0], params, true)
		l = append(l, []string{"", "+", "-", "*", "/", "%", "<", "=="}[n.Op])
		return d.expr(l, t.args[1], params, true)
	case api.ExprIf:
		for i, word := range []string{"if", "then", "else"} {
			l = d.expr(append(l, word), t.args[i], params, false)
		}
		return l
	case api.ExprCall:
		l = append(l, n.Name, "(")
	case api.ExprRead:
		l = append(l, "read", "(", `"`+n.Name+`"`, ",")
	default:
		l = append(l, map[int]string{api.ExprSize: "size", api.ExprHas: "has", api.ExprEnv: "env"}[n.Kind], "(", `"`+n.Name+`"`)
	}
	for i, arg := range t.args {
		if i > 0 {
			l = append(l, ",")
		}
		l = d.expr(l, arg, params, false)
	}
	return append(l, ")")
}

// spread writes words with blanks and comments between them.
func (d *dice) spread(words []string) string {
	var b strings.Builder
	for _, word := range words {
		b.WriteString(d.pick(" ", "\n", "\t \r", "# ; )\n", "  "))
		b.WriteString(word)
	}
	return b.String()
}

// copyOf returns a source that shares no memory with f, with nil slices for empty ones.
func copyOf(f api.Source) api.Source {
	f.Imports, f.Decls = append([]string(nil), f.Imports...), append([]api.Decl(nil), f.Decls...)
	for i := range f.Decls {
		n := &f.Decls[i]
		n.Params, n.Body = append([]string(nil), n.Params...), append([]api.Expr(nil), n.Body...)
		for k := range n.Body {
			n.Body[k].Args = append([]int(nil), n.Body[k].Args...)
		}
	}
	return f
}

// equal tells whether sources are equal, where a nil slice and an empty one are the same.
func equal(a, b api.Source) bool { return reflect.DeepEqual(copyOf(a), copyOf(b)) }
