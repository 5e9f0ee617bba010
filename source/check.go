package source

import (
	"slices"

	"testgate/api"
	"testgate/lexer"
)

// Check returns the first error that applies to a source.
func Check(f api.Source) api.Errno {
	switch {
	case !isSource(f):
		return api.ErrSyntax
	case !isDistinct(f):
		return api.ErrTwice
	case !isSmall(f):
		return api.ErrLimit
	}
	return api.OK
}

// isSource tells whether a source is one without regard to names that occur twice and to limits.
func isSource(f api.Source) bool {
	return isName(f.Package) && all(f.Imports, isName) && all(f.Decls, isDecl)
}

func isDecl(d api.Decl) bool {
	switch d.Kind {
	case api.DeclFunc:
		return isName(d.Name) && all(d.Params, isName) && isBody(d.Body, len(d.Params))
	case api.DeclTest:
		return isName(d.Name) && len(d.Params) == 0 && isBody(d.Body, 0)
	case api.DeclGen:
		return lexer.Path(d.Name) && len(d.Params) == 0 && isBody(d.Body, 0)
	}
	return false
}

// isBody tells whether nodes are an expression in the right order: each node takes the last nodes that are no arguments yet as its arguments.
func isBody(l []api.Expr, params int) bool {
	var free []int
	for i, n := range l {
		first := len(free) - len(n.Args)
		if !isNode(n, params) || first < 0 || !slices.Equal(free[first:], n.Args) {
			return false
		}
		free = append(free[:first], i)
	}
	return len(free) == 1
}

// isNode tells whether the fields of a node are right for its kind, without regard to which nodes its arguments are.
func isNode(n api.Expr, params int) bool {
	number, op, name, args := n.Number == 0, n.Op == 0, n.Name == "", len(n.Args) == 0
	switch n.Kind {
	case api.ExprNumber:
		number = n.Number >= -api.MaxValue && n.Number <= api.MaxValue
	case api.ExprParam:
		number = n.Number >= 0 && n.Number < params
	case api.ExprCall:
		name, args = isName(n.Name), true
	case api.ExprBinary:
		op, args = n.Op >= api.OpAdd && n.Op <= api.OpEqual, len(n.Args) == 2
	case api.ExprIf:
		args = len(n.Args) == 3
	case api.ExprRead:
		name, args = lexer.Path(n.Name), len(n.Args) == 1
	case api.ExprSize, api.ExprHas:
		name = lexer.Path(n.Name)
	case api.ExprEnv:
		name = lexer.Name(n.Name)
	case api.ExprFlip:
		number = n.Number >= 0 && n.Number < api.MaxFlips
	default:
		return false
	}
	return number && op && name && args
}

// identity is what only one declaration of a file has.
type identity struct {
	kind int
	name string
}

// isDistinct tells whether no name of a source occurs twice where it may not.
func isDistinct(f api.Source) bool {
	var names []identity
	for _, d := range f.Decls {
		if !distinct(d.Params) {
			return false
		}
		names = append(names, identity{d.Kind, d.Name})
	}
	return distinct(append([]string{f.Package}, f.Imports...)) && distinct(names)
}

// isSmall tells whether a source keeps the limits of its numbers and of its nesting.
func isSmall(f api.Source) bool {
	return len(f.Imports) <= api.MaxImports && len(f.Decls) <= api.MaxDecls && all(f.Decls, isSmallDecl)
}

func isSmallDecl(d api.Decl) bool {
	return len(d.Params) <= api.MaxParams && len(d.Body) <= api.MaxNodes && nesting(d.Body) <= api.MaxNesting
}

// nesting returns the depth of the deepest node of an expression in the right order. The nodes are visited from the last one on and not by calls, since there may be any number of them.
func nesting(l []api.Expr) int {
	depths := make([]int, len(l))
	depths[len(l)-1] = 1
	for i := len(l) - 1; i >= 0; i-- {
		depth := depths[i]
		if l[i].Kind != api.ExprBinary {
			depth++
		}
		for _, arg := range l[i].Args {
			depths[arg] = depth
		}
	}
	return slices.Max(depths)
}

// all tells whether all items fit.
func all[T any](l []T, fits func(item T) bool) bool {
	return !slices.ContainsFunc(l, func(item T) bool { return !fits(item) })
}

// distinct tells whether no item occurs twice.
func distinct[T comparable](l []T) bool {
	seen := map[T]bool{}
	for _, item := range l {
		if seen[item] {
			return false
		}
		seen[item] = true
	}
	return true
}
