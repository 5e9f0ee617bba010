package source

import (
	"strconv"
	"strings"

	"testgate/api"
)

// Format returns the text of a source.
func Format(f api.Source) (string, api.Errno) {
	if e := Check(f); e != api.OK {
		return "", e
	}
	var w writer
	w.file(f)
	text := w.out.String()
	// The limits of a text are those of Parse: parentheses can nest it more deeply than the nodes are nested.
	if _, _, e := Parse(text); e != api.OK {
		return "", e
	}
	return text, api.OK
}

// Body returns the text of an expression with parameters.
func Body(l []api.Expr, params []string) (string, api.Errno) {
	d := api.Decl{Kind: api.DeclFunc, Name: "f", Params: params, Body: l}
	if e := Check(api.Source{Package: "p", Decls: []api.Decl{d}}); e != api.OK {
		return "", e
	}
	var w writer
	w.body(d)
	return w.out.String(), api.OK
}

// writer writes sources that Check accepts.
type writer struct {
	out  strings.Builder
	decl api.Decl // the declaration whose body is written
}

func (w *writer) put(parts ...string) {
	for _, part := range parts {
		w.out.WriteString(part)
	}
}

func (w *writer) file(f api.Source) {
	w.put("package ", f.Package, ";\n")
	for _, name := range f.Imports {
		w.put("import ", name, ";\n")
	}
	for _, d := range f.Decls {
		w.head(d)
		w.put(" = ")
		w.body(d)
		w.put(";\n")
	}
}

// head writes what stands before the sign = of a declaration.
func (w *writer) head(d api.Decl) {
	switch d.Kind {
	case api.DeclFunc:
		w.put("func ", d.Name, "(", strings.Join(d.Params, ", "), ")")
	case api.DeclTest:
		w.put("test ", d.Name)
	case api.DeclGen:
		w.put("gen \"", d.Name, "\"")
	}
}

func (w *writer) body(d api.Decl) {
	w.decl = d
	w.expr(len(d.Body)-1, levelIf)
}

// expr writes a node with all below it where a level is asked for.
func (w *writer) expr(index, level int) {
	n := w.decl.Body[index]
	if levelOf(n) < level {
		w.put("(")
		w.node(n)
		w.put(")")
		return
	}
	w.node(n)
}

// levelOf returns the level of what a node stands for.
func levelOf(n api.Expr) int {
	switch n.Kind {
	case api.ExprIf:
		return levelIf
	case api.ExprBinary:
		return operators[n.Op].level
	}
	return levelFactor
}

func (w *writer) node(n api.Expr) {
	switch n.Kind {
	case api.ExprNumber:
		w.put(strconv.Itoa(n.Number))
	case api.ExprParam:
		w.put(w.decl.Params[n.Number])
	case api.ExprCall:
		w.call(n)
	case api.ExprBinary:
		w.binary(n)
	case api.ExprIf:
		w.choice(n)
	case api.ExprRead:
		w.put("read(\"", n.Name, "\", ")
		w.expr(n.Args[0], levelIf)
		w.put(")")
	case api.ExprSize:
		w.put("size(\"", n.Name, "\")")
	case api.ExprHas:
		w.put("has(\"", n.Name, "\")")
	case api.ExprEnv:
		w.put("env(\"", n.Name, "\")")
	case api.ExprFlip:
		w.put("flip(", strconv.Itoa(n.Number), ")")
	}
}

func (w *writer) call(n api.Expr) {
	w.put(n.Name, "(")
	for i, arg := range n.Args {
		if i > 0 {
			w.put(", ")
		}
		w.expr(arg, levelIf)
	}
	w.put(")")
}

// binary writes an operator with its operands. The left one may have the same level, since operators are applied from left to right, but for those of compare, which stand alone.
func (w *writer) binary(n api.Expr) {
	level := operators[n.Op].level
	left := level
	if level == levelCompare {
		left++
	}
	w.expr(n.Args[0], left)
	w.put(" ", operators[n.Op].sign, " ")
	w.expr(n.Args[1], level+1)
}

func (w *writer) choice(n api.Expr) {
	w.put("if ")
	w.expr(n.Args[0], levelIf)
	w.put(" then ")
	w.expr(n.Args[1], levelIf)
	w.put(" else ")
	w.expr(n.Args[2], levelIf)
}
