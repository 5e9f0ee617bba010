package source_test

import (
	"fmt"
	"strings"
	"testing"

	"testgate/api"
	"testgate/source"
)

// wantParse checks that a file has no mistake, or the one that is told.
func wantParse(t *testing.T, s string, at int, e api.Errno) {
	t.Helper()
	f, gotAt, gotE := source.Parse(s)
	if gotAt != at || gotE != e || e != api.OK && !equal(f, api.Source{}) {
		t.Errorf("Parse of %.400q: %d, error %d instead of %d, error %d", s, gotAt, gotE, at, e)
	}
}

// numbered returns texts for the numbers from 0 to n - 1, one after the other.
func numbered(format string, n int) string {
	var b strings.Builder
	for i := range n {
		fmt.Fprintf(&b, format, i)
	}
	return b.String()
}

func TestLimitsOfFiles(t *testing.T) {
	imports := "package p; " + numbered("import q%d; ", api.MaxImports)
	wantParse(t, imports, 0, api.OK)
	for _, s := range []string{"import r;", "import q0;", "import p;", "import if;", "import 1", "import"} {
		wantParse(t, imports+s, len(imports), api.ErrLimit)
	}
	wantParse(t, imports+"imports r;", len(imports), api.ErrSyntax)
	wantParse(t, imports+"test t = 1; import", len(imports)+12, api.ErrSyntax)

	for _, format := range []string{"test t%d = 1; ", "func t%d() = 1; ", "gen \"t%d\" = 1; ", "func f%[1]d(a) = a; test t%[1]d = 1; gen \"%[1]d\" = 1; gen \"a/%[1]d\" = 1; "} {
		each := strings.Count(format, ";")
		decls := "package p; " + numbered(format, api.MaxDecls/each)
		wantParse(t, decls, 0, api.OK)
		for _, s := range []string{"test t = 1;", "test t0 = 1;", "func t0", "gen", "gen \"t0\"", "test if", "func 1"} {
			wantParse(t, decls+s, len(decls), api.ErrLimit)
		}
		for _, s := range []string{"then", "1", "import q", "package p;", ";", "t", "\"gen\""} {
			wantParse(t, decls+s, len(decls), api.ErrSyntax)
		}
	}
	decls := "package p; " + numbered("test t%d = 1; ", api.MaxDecls-1)
	wantParse(t, decls+"test t0", len(decls)+5, api.ErrTwice)
	wantParse(t, imports[:len(imports)-len("import q7; ")]+"import q0", len(imports)-len("import q7; ")+7, api.ErrTwice)

	params := "package p; func f(" + numbered("p%d, ", api.MaxParams-1)
	wantParse(t, params+"x) = p0 + x;", 0, api.OK)
	wantParse(t, params+"p0) = 1;", len(params), api.ErrTwice)
	for s, e := range map[string]api.Errno{"y) = 1;": api.ErrLimit, "p0": api.ErrLimit, "x$": api.ErrSyntax, "y 1": api.ErrLimit, "if": api.ErrSyntax, ")": api.ErrSyntax, "1": api.ErrSyntax} {
		at := len(params) + 3
		if s == "x$" {
			at++
		}
		wantParse(t, params+"x, "+s, at, e)
	}
	wantParse(t, "package p; func f() = g("+strings.Repeat("1, ", 100)+"2);", 0, api.OK)
	wantParse(t, "package p;"+strings.Repeat(" ", api.MaxBytes-10), 0, api.OK)
	wantParse(t, "package p;"+strings.Repeat(" ", api.MaxBytes-9), 0, api.ErrLimit)
}

// sum returns an expression with n nodes.
func sum(n int) string {
	if n%2 == 0 {
		return "g(" + sum(n-1) + ")"
	}
	return "1" + strings.Repeat("+1", n/2)
}

// TestLimitOfNodes puts expressions at the end of so many nodes that each of their nodes, one after the other, is the first one too many.
func TestLimitOfNodes(t *testing.T) {
	for _, c := range []struct {
		s      string
		firsts []string // the first word of each node, in the order in which they end
	}{
		{"7", []string{"7"}}, {"b", []string{"b"}}, {"- 7", []string{"-"}}, {"(((b)))", []string{"b"}}, {"(- 7)", []string{"-"}}, {"f()", []string{"f"}}, {"f(b)", []string{"b", "f"}}, {"f((2), b, h(3))", []string{"2", "b", "3", "h", "f"}},
		{"2 + 3", []string{"2", "3", "+"}}, {"2 + 3 * 4 - 5", []string{"2", "3", "4", "*", "+", "5", "-"}}, {"(2 - 3) % 4", []string{"2", "3", "-", "4", "%"}}, {"2 - (3 / 4)", []string{"2", "3", "4", "/", "-"}}, {"2 < 3 + 4", []string{"2", "3", "4", "+", "<"}}, {"b == - 3", []string{"b", "-", "=="}},
		{"if 2 then 3 else 4", []string{"2", "3", "4", "if"}}, {"if b < 2 then - 3 else f(4, h())", []string{"b", "2", "<", "-", "4", "h(", "f(", "if"}}, {"(if 2 then 3 else 4) * 5", []string{"2", "3", "4", "if", "5", "*"}},
		{`read("x", 2)`, []string{"2", "read"}}, {`size("x")`, []string{"size"}}, {`has("x")`, []string{"has"}}, {`env("x")`, []string{"env"}}, {"flip(3)", []string{"flip"}}, {`read("x", size("y") + env("z"))`, []string{"size", "env", "+", "read"}},
	} {
		for k := range len(c.firsts) + 2 {
			begin := head + "w(" + sum(api.MaxNodes-k) + ", "
			at, e := len(head), api.ErrLimit
			if k < len(c.firsts) {
				at = len(begin) + strings.Index(c.s, c.firsts[k])
			} else if k > len(c.firsts) {
				at, e = 0, api.OK
			}
			wantParse(t, begin+c.s+");", at, e)
		}
	}
	// The nodes of each declaration count alone.
	wantParse(t, head+sum(api.MaxNodes)+"; test t = "+sum(api.MaxNodes)+"; gen \"a\" = "+sum(api.MaxNodes)+";", 0, api.OK)
}

// TestWhenNodesCount has mistakes before and behind the end of a node that is too many.
func TestWhenNodesCount(t *testing.T) {
	full := head + "w(" + sum(api.MaxNodes) + ", "
	for s, e := range map[string]api.Errno{
		"1": api.ErrLimit, "1 1": api.ErrLimit, "- 1 1": api.ErrLimit, "b c": api.ErrLimit, "c": api.ErrSyntax, "f() 1": api.ErrLimit, "flip(63) 1": api.ErrLimit, "(1;": api.ErrLimit, ")": api.ErrSyntax, "if 1 1": api.ErrLimit, "then": api.ErrSyntax,
	} {
		at := 0
		switch s {
		case "(1;":
			at = 1
		case "if 1 1":
			at = 3
		}
		wantParse(t, full+s, len(full)+at, e)
	}
	for s, at := range map[string]int{
		"- b": 2, "f(c": 2, "f(;": 2, "f(": 2, "f": 0, "flip(64)": 5, "flip(1;": 6, "flip(": 5, `size("A")`: 5, `size("a";`: 8, `has("a" 1`: 8, `env("A"`: 4, `env("a",`: 7, `read("A"`: 5, `read("a";`: 8, `read("a", ;`: 10,
	} {
		wantParse(t, full+s, len(full)+at, api.ErrSyntax)
	}
	// The operator of a sum ends with its right operand, before what follows is read, but not before its right operand is a whole term.
	last := head + sum(api.MaxNodes-1)
	wantParse(t, last+" + 2 2", len(last)+1, api.ErrLimit)
	wantParse(t, last+" + 2 * 2", len(last)+7, api.ErrLimit)
	wantParse(t, last+" + 2 * c", len(last)+7, api.ErrSyntax)
	wantParse(t, last+" + 2 *;", len(last)+6, api.ErrSyntax)
	wantParse(t, last+" < 2 < 2", len(last)+1, api.ErrLimit)
	wantParse(t, last+" + (2 2", len(last)+6, api.ErrSyntax)
	wantParse(t, last+" + (2) 2", len(last)+1, api.ErrLimit)
}

// nest is a way to nest an expression: first is the offset of the first expression that is nested.
type nest struct {
	before, after string
	first         int
}

func nests() []nest {
	return []nest{
		{"(", ")", 1}, {"1 + (", ") * 2", 5}, {"1 < (", ")", 5}, {"if ", " then 1 else 2", 3}, {"if 1 then ", " else 2", 3}, {"if 1 then 2 else ", "", 3}, {"f(", ")", 2}, {"f(1, ", ")", 2}, {"f(1, ", ", 2)", 2}, {"-1 - f(", ") - 2", 7}, {`read("x", `, ")", 10}, {"f() + (", ")", 7},
	}
}

// nested returns an expression in n nests, which are given by a function, and the offset of the first expression with the depth n + 1.
func nested(n int, core string, next func() nest) (s string, at int) {
	before, after := "", ""
	for range n {
		w := next()
		at = len(before) + w.first
		before, after = before+w.before, w.after+after
	}
	return before + core + after, at
}

func TestLimitOfNesting(t *testing.T) {
	d := dice(5)
	for i := range 1000 {
		ways := nests()
		if i < len(ways) {
			ways = ways[i : i+1]
		}
		next := func() nest { return ways[d.roll(len(ways))] }
		for _, core := range []string{"1", "b + 1 * 2 < 3 - f()", "f()", "-7", `size("x")`} {
			s, _ := nested(api.MaxNesting-1, core, next)
			wantParse(t, head+s+";", 0, api.OK)
		}
		for _, core := range []string{"1", "f()", "c", "if", "(", "(((((", ";", "then", "-b", `"x"`, "flip(64)", "1 1", "f(1, 1"} {
			s, at := nested(api.MaxNesting, core, next)
			wantParse(t, head+s+";", len(head)+at, api.ErrLimit)
		}
	}
	calls := strings.Repeat("f(", api.MaxNesting) + strings.Repeat(")", api.MaxNesting)
	wantParse(t, head+calls+";", 0, api.OK)
	wantParse(t, head+strings.Repeat("f(", api.MaxNesting)+";", len(head)+2*api.MaxNesting, api.ErrLimit)
	wantParse(t, head+strings.Repeat("(", api.MaxBytes-len(head)), len(head)+api.MaxNesting, api.ErrLimit)
	wantParse(t, head+"1"+strings.Repeat(" + (1)", 127)+";", 0, api.OK)
	wantParse(t, head+strings.Repeat("(", 31)+"1"+strings.Repeat(")", 31)+"*("+strings.Repeat("(", 30)+"1"+strings.Repeat(")", 31)+"; test t = "+strings.Repeat("(", 31)+"1"+strings.Repeat(")", 31)+";", 0, api.OK)
	// A mistake before the expression that is too deep is told, and one node too many as well.
	wantParse(t, head+"c + "+strings.Repeat("(", 40), len(head), api.ErrSyntax)
	full := head + "w(" + sum(api.MaxNodes) + ", "
	wantParse(t, full+strings.Repeat("(", 31)+"1", len(full)+31, api.ErrLimit)
	wantParse(t, full+"1 + "+strings.Repeat("(", 31)+"1", len(full), api.ErrLimit)
}
