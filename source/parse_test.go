package source_test

import (
	"strings"
	"testing"

	"testgate/api"
	"testgate/source"
)

// head is what stands before the body in the tests of expressions; its length is the offset of the body.
const head = "package p; func f(a, b) = "

// bodyOf returns what is parsed from an expression whose parameters are a and b.
func bodyOf(s string) (l []api.Expr, at int, e api.Errno) {
	f, at, e := source.Parse(head + s + ";")
	if e != api.OK {
		return nil, at, e
	}
	return f.Decls[0].Body, at, e
}

func TestParse(t *testing.T) {
	one, two, three := number(1), number(2), number(3)
	for s, want := range map[string]api.Source{
		"package p;":                            {Package: "p"},
		"#\n package\tp\r;\n#":                  {Package: "p"},
		"package p;import q;":                   {Package: "p", Imports: []string{"q"}},
		"package b;import c;import a;test a=1;": {Package: "b", Imports: []string{"c", "a"}, Decls: []api.Decl{test("a", one)}},

		"package p; func f() = 1;":                                      file(function("f", nil, one)),
		"package p; func f(a) = 1; func a(f) = f;":                      file(function("f", []string{"a"}, one), function("a", []string{"f"}, param(0))),
		"package p; func p(p, q) = p(q);":                               file(function("p", []string{"p", "q"}, call("p", param(1)))),
		"package p; test t = t();":                                      file(test("t", call("t"))),
		"package p; gen \"if\" = 0;":                                    file(gen("if", number(0))),
		"package p; gen \"a/../.b\" = 1; gen \"a\" = 2;":                file(gen("a/../.b", one), gen("a", two)),
		"package p; func x() = 1; test x = 2; gen \"x\" = 3;":           file(function("x", nil, one), test("x", two), gen("x", three)),
		"package p; func f(a) = a; func g(a) = a; func h(b) = b;":       file(function("f", []string{"a"}, param(0)), function("g", []string{"a"}, param(0)), function("h", []string{"b"}, param(0))),
		"package packages; import iff; func tests(gens) = thens(gens);": {Package: "packages", Imports: []string{"iff"}, Decls: []api.Decl{function("tests", []string{"gens"}, call("thens", param(0)))}},
	} {
		if f, at, e := source.Parse(s); !equal(f, want) || at != 0 || e != api.OK {
			t.Errorf("Parse of %q: %v, %d, error %d", s, f, at, e)
		}
	}
}

func TestExpressions(t *testing.T) {
	a, b, one, two, three := param(0), param(1), number(1), number(2), number(3)
	for s, want := range map[string]tree{
		"a": a, "b": b, "7": number(7), "-7": number(-7), "- 7": number(-7), "007": number(7), "-0": number(0), "9007199254740992": number(api.MaxValue), "-9007199254740992": number(-api.MaxValue),
		"(a)": a, "(((-7)))": number(-7),
		"a()": call("a"), "g(a, b)": call("g", a, b), "g((a), b())": call("g", a, call("b")), "g(1)(2)": {},
		"1 + 2 * 3": binary(api.OpAdd, one, binary(api.OpMul, two, three)), "1 * 2 + 3": binary(api.OpAdd, binary(api.OpMul, one, two), three), "(1 + 2) * 3": binary(api.OpMul, binary(api.OpAdd, one, two), three),
		"1 - 2 - 3": binary(api.OpSub, binary(api.OpSub, one, two), three), "1 - (2 - 3)": binary(api.OpSub, one, binary(api.OpSub, two, three)), "1 - 2 + 3": binary(api.OpAdd, binary(api.OpSub, one, two), three),
		"1 / 2 % 3": binary(api.OpMod, binary(api.OpDiv, one, two), three), "1 % 2 / 3": binary(api.OpDiv, binary(api.OpMod, one, two), three), "1 * (2 / 3)": binary(api.OpMul, one, binary(api.OpDiv, two, three)),
		"a-1": binary(api.OpSub, a, one), "a--1": binary(api.OpSub, a, number(-1)), "-1-1": binary(api.OpSub, number(-1), one), "a*-1": binary(api.OpMul, a, number(-1)),
		"1 < 2": binary(api.OpLess, one, two), "1 == 2": binary(api.OpEqual, one, two), "(1 < 2) == 3": binary(api.OpEqual, binary(api.OpLess, one, two), three), "1 < (2 < 3)": binary(api.OpLess, one, binary(api.OpLess, two, three)),
		"1 < 2 - 3": binary(api.OpLess, one, binary(api.OpSub, two, three)), "1 % 2 == 3": binary(api.OpEqual, binary(api.OpMod, one, two), three),
		"if a then b else 1": choice(a, b, one), "if a then b else 1 + 2": choice(a, b, binary(api.OpAdd, one, two)), "(if a then b else 1) + 2": binary(api.OpAdd, choice(a, b, one), two),
		"if a < 1 then a == 1 else -1": choice(binary(api.OpLess, a, one), binary(api.OpEqual, a, one), number(-1)), "if if a then 1 else 2 then if b then 1 else 2 else if 1 then 2 else 3": choice(choice(a, one, two), choice(b, one, two), choice(one, two, three)),
		"if (a) then g(if b then 1 else 2) else 3": choice(a, call("g", choice(b, one, two)), three),
		`read("a/b", a + 1)`:                       named(api.ExprRead, "a/b", binary(api.OpAdd, a, one)), `read("if", if a then 1 else 2)`: named(api.ExprRead, "if", choice(a, one, two)),
		`size("a.b")`: named(api.ExprSize, "a.b"), `has("9")`: named(api.ExprHas, "9"), `env("flip")`: named(api.ExprEnv, "flip"), "flip(0)": flip(0), "flip(063)": flip(63),
		`size("a") * has("a") - env("a") / flip(1)`: binary(api.OpSub, binary(api.OpMul, named(api.ExprSize, "a"), named(api.ExprHas, "a")), binary(api.OpDiv, named(api.ExprEnv, "a"), flip(1))),
	} {
		l, at, e := bodyOf(s)
		if want.node.Kind == 0 {
			if e != api.ErrSyntax {
				t.Errorf("Parse of %q: error %d", s, e)
			}
			continue
		}
		if !equal(file(api.Decl{Body: l}), file(api.Decl{Body: want.put(nil)})) || at != 0 || e != api.OK {
			t.Errorf("Parse of %q: %v, %d, error %d", s, l, at, e)
		}
	}
}

func TestMistakes(t *testing.T) {
	for _, c := range []struct {
		s  string
		at int
		e  api.Errno
	}{
		{"", 0, api.ErrSyntax}, {" # package p;", 13, api.ErrSyntax}, {"p;", 0, api.ErrSyntax}, {`"package" p;`, 0, api.ErrSyntax}, {"package", 7, api.ErrSyntax}, {"package ;", 8, api.ErrSyntax}, {"package 1;", 8, api.ErrSyntax}, {`package "p";`, 8, api.ErrSyntax}, {"package p p", 10, api.ErrSyntax}, {`package p ";"`, 10, api.ErrSyntax}, {"package p;;", 10, api.ErrSyntax}, {"package p; package p;", 11, api.ErrSyntax},
		{"package p; import ;", 18, api.ErrSyntax}, {"package p; import q, r;", 19, api.ErrSyntax}, {`package p; import "q";`, 18, api.ErrSyntax}, {`package p; "import" q;`, 11, api.ErrSyntax}, {"package p; import q import r;", 20, api.ErrSyntax}, {"package p; func f() = 1; import q;", 25, api.ErrSyntax},
		{"package p; func = 1;", 16, api.ErrSyntax}, {"package p; func f = 1;", 18, api.ErrSyntax}, {"package p; func f(1) = 1;", 18, api.ErrSyntax}, {"package p; func f(,) = 1;", 18, api.ErrSyntax}, {"package p; func f(a b) = 1;", 20, api.ErrSyntax}, {"package p; func f(a", 19, api.ErrSyntax}, {"package p; func f(a);", 20, api.ErrSyntax}, {"package p; func f() == 1;", 20, api.ErrSyntax}, {"package p; func f() =;", 21, api.ErrSyntax}, {"package p; func f() = 1", 23, api.ErrSyntax}, {"package p; func f() = 1,", 23, api.ErrSyntax}, {`package p; func "f"() = 1;`, 16, api.ErrSyntax}, {`package p; func f "(" ) = 1;`, 18, api.ErrSyntax},
		{"package p; test t() = 1;", 17, api.ErrSyntax}, {`package p; test "t" = 1;`, 16, api.ErrSyntax}, {"package p; test t == 1;", 18, api.ErrSyntax}, {`package p; "test" t = 1;`, 11, api.ErrSyntax}, {"package p; gen g = 1;", 15, api.ErrSyntax}, {`package p; gen "g"() = 1;`, 18, api.ErrSyntax}, {"package p; 1", 11, api.ErrSyntax}, {"package p; then", 11, api.ErrSyntax},
		{`package p; gen "" = 1;`, 15, api.ErrSyntax}, {`package p; gen "/a" = 1;`, 15, api.ErrSyntax}, {`package p; gen "A" = 1;`, 15, api.ErrSyntax}, {`package p; gen "` + strings.Repeat("a/", 8) + `a" = 1;`, 15, api.ErrSyntax}, {`package p; gen "a"; gen "A"`, 18, api.ErrSyntax},

		{"package p; import p;", 18, api.ErrTwice}, {"package p; import p", 18, api.ErrTwice}, {"package p; import q; import r; import q 1", 38, api.ErrTwice}, {"package p; import q; import p", 28, api.ErrTwice},
		{"package p; func f(a, b, a", 24, api.ErrTwice}, {"package p; func f(a, a b", 21, api.ErrTwice}, {"package p; func f() = 1; func f", 30, api.ErrTwice}, {"package p; func f() = 1; test f = 2; func f", 42, api.ErrTwice}, {"package p; test f = 1; test g = 2; test f;", 40, api.ErrTwice}, {`package p; gen "f" = 1; gen "f";`, 28, api.ErrTwice}, {`package p; gen "f" = 1; gen "f/f" = 1; test f = 1; gen "f/f"`, 55, api.ErrTwice},
		{"package p; import q; import q; $", 31, api.ErrSyntax}, {"package p; import q; import q; " + strings.Repeat("n", 25), 31, api.ErrLimit}, {"package p; import q; import q; 9007199254740993", 31, api.ErrRange}, {"package if; \"", 12, api.ErrSyntax}, {"package p; import p;" + strings.Repeat(" ", api.MaxBytes), 0, api.ErrLimit},
		{"package p; test t = 9007199254740993;", 20, api.ErrRange}, {"package p; test t = -9007199254740993;", 21, api.ErrRange},
	} {
		if f, at, e := source.Parse(c.s); !equal(f, api.Source{}) || at != c.at || e != c.e {
			t.Errorf("Parse of %q: %v, %d, error %d", c.s, f, at, e)
		}
	}
}

func TestMistakesOfExpressions(t *testing.T) {
	for s, at := range map[string]int{
		"": 0, ")": 0, "+ 1": 0, "1 +": 3, "1 + + 1": 4, "1 2": 2, "a b": 2, "a 1": 2, "1 - - - 1": 6, "--1": 1, "-a": 1, "-(1)": 1, "-g(1)": 1, "1 = 2": 2, "1, 2": 1, `"a"`: 0, `1 "+" 1`: 2, `"(" 1)`: 0, "(1": 2, "(1,": 2, "()": 1, "(1;": 2,
		"1 < 2 < 3": 6, "1 < 2 == 3": 6, "1 == 2 == 3": 7, "1 == 2 < 3": 7, "(1 < 2 < 3)": 7, "1 < 2 + 3 < 4": 10, "g(1 == 2 == 3)": 9,
		"if": 2, "if a": 4, "if a else 1": 5, "if a then": 9, "if a then 1": 11, "if a then 1;": 11, "if a then 1 then 2": 12, "if a then 1 else": 16, "if a then 1 else 2 else 3": 19, "if a, then": 4, "1 + if a then 1 else 2": 4, "1 < if a then 1 else 2": 4, "-if": 1, "(if a then 1) else 2": 12, `if a "then"`: 5, "if (a then 1 else 2)": 6, "a then": 2, "if a then 1 else 2 + if": 21,
		"g(": 2, "g(,": 2, "g(1,": 4, "g(1,)": 4, "g(1 2)": 4, "g(1": 3, "g(1;": 3, "g()()": 3, "1(": 1, "g)": 0,
		"read": 4, "read(": 5, "read()": 5, "read(1": 5, `read("a"`: 8, `read("a")`: 8, `read("a" 1`: 9, `read("a", )`: 10, `read("a", 1, 2)`: 11, `read("a", 1`: 11, `read(a, 1)`: 5, `read("a b", 1`: 5, `read "a"`: 5, `read("", then`: 5, `read("a//b", 1)`: 5, `read("A", 1)`: 5,
		"size": 4, "size(": 5, `size(1)`: 5, `size("a", 1)`: 8, `size("a"`: 8, `size("-"`: 5, `size(a)`: 5, `size()`: 5, "has": 3, `has("a"`: 7, `has("a" 1)`: 8, `has("a ")`: 4, `has("` + strings.Repeat("a", 25) + `"`: 4, `has(has)`: 4,
		"env": 3, "env(": 4, `env(1)`: 4, `env("")`: 4, `env("a.b")`: 4, `env("a/b")`: 4, `env("1")`: 4, `env("_")`: 4, `env("A"`: 4, `env("a", 1)`: 7, `env("` + strings.Repeat("a", 25) + `")`: 4, "env(a)": 4,
		"flip": 4, "flip(": 5, "flip()": 5, "flip(64": 5, "flip(1": 6, "flip(1,": 6, "flip(-1)": 5, "flip(a)": 5, `flip("1")`: 5, "flip((1))": 5, "flip(9007199254740992)": 5,
		"c": 0, "f": 0, "a + c": 4, "c b": 0, "g": 0, "a * (c": 5, "if c": 3, "f(c)": 2, "aa": 0, "p": 0,
		"package": 0, "import": 0, "func": 0, "test": 0, "gen": 0, "then": 0, "else": 0, "then(1)": 0, "package()": 0, "1 + else": 4, "test(1)": 0,
	} {
		f, got, e := source.Parse(head + s)
		if !equal(f, api.Source{}) || got != at+len(head) || e != api.ErrSyntax {
			t.Errorf("Parse of %q: %v, %d, error %d", s, f, got-len(head), e)
		}
	}
}

// TestReservedWords has each reserved word, and words that are not reserved, at each place of a name.
func TestReservedWords(t *testing.T) {
	words := map[string]bool{"package": true, "import": true, "func": true, "test": true, "gen": true, "if": true, "then": true, "else": true, "read": true, "size": true, "has": true, "env": true, "flip": true, "p_": false, "string": false, "number": false, "name": false, "expr": false, "file": false, "decl": false, "factor": false, "ifs": false, "f": false, "fli": false, "flips": false}
	for word, isReserved := range words {
		for _, c := range []struct{ before, after string }{
			{"package ", ";"}, {"package p; import ", ";"}, {"package p; func ", "() = 1;"}, {"package p; test ", " = 1;"}, {"package p; func g(", ") = 1;"}, {"package p; func g(a, ", ", b) = 1;"},
		} {
			_, at, e := source.Parse(c.before + word + c.after)
			if isReserved && (e != api.ErrSyntax || at != len(c.before)) || !isReserved && (e != api.OK || at != 0) {
				t.Errorf("Parse of %q: %d, error %d", c.before+word+c.after, at, e)
			}
		}
		if _, _, e := source.Parse("package p; test t = env(\"" + word + "\") + size(\"" + word + "\"); gen \"" + word + "\" = 1;"); e != api.OK {
			t.Errorf("Parse of the variable and the path %q: error %d", word, e)
		}
	}
}

// TestParseSharesNothing changes all memory of a result, and appends behind each of its slices: no other part of it may change, and no later result.
func TestParseSharesNothing(t *testing.T) {
	s := "package p; import q; import r; func f(a, b, c) = g(a, b, c) + g(1, 2, 3); func g(a, b, c) = 1; func h() = g(1, 2, 3);"
	want, _, _ := source.Parse(s)
	want = copyOf(want)
	f, _, _ := source.Parse(s)
	_ = append(f.Imports, "x")
	for i := range f.Decls {
		_ = append(f.Decls[i].Params, "x", "x", "x", "x")
		_ = append(f.Decls[i].Body, make([]api.Expr, 20)...)
		for k := range f.Decls[i].Body {
			_ = append(f.Decls[i].Body[k].Args, -1, -1)
		}
	}
	if !equal(f, want) {
		t.Errorf("appending changed it: %v", f)
	}
	for i := range f.Decls {
		for k := range f.Decls[i].Params {
			f.Decls[i].Params[k] = "x"
		}
		for k := range f.Decls[i].Body {
			for m := range f.Decls[i].Body[k].Args {
				f.Decls[i].Body[k].Args[m] -= 100
			}
		}
	}
	for i := range f.Decls {
		for k := range f.Decls[i].Body {
			for m := range f.Decls[i].Body[k].Args {
				if f.Decls[i].Body[k].Args[m] != want.Decls[i].Body[k].Args[m]-100 {
					t.Errorf("declaration %d, node %d: %v", i, k, f.Decls[i].Body[k].Args)
				}
			}
		}
	}
	if f, _, _ = source.Parse(s); !equal(f, want) {
		t.Errorf("a later result changed: %v", f)
	}
}
