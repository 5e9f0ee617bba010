package source_test

import (
	"fmt"
	"slices"
	"strings"
	"testing"
	"unsafe"

	"testgate/api"
	"testgate/lexer"
	"testgate/source"
)

func TestFormat(t *testing.T) {
	one := number(1)
	for want, f := range map[string]api.Source{
		"package p;\n":                       {Package: "p"},
		"package p;\nimport r;\nimport q;\n": {Package: "p", Imports: []string{"r", "q"}},
		"package b;\nimport a;\nfunc f() = 1;\nfunc g(x) = x;\nfunc h(y, x) = x;\ntest t = 1;\ngen \"a/b.c\" = -1;\n": {Package: "b", Imports: []string{"a"}, Decls: []api.Decl{function("f", nil, one), function("g", []string{"x"}, param(0)), function("h", []string{"y", "x"}, param(1)), test("t", one), gen("a/b.c", number(-1))}},
		"package p;\ngen \"z\" = 1;\ntest t = 1;\nfunc t() = 1;\n":                                                    file(gen("z", one), test("t", one), function("t", nil, one)),
	} {
		if s, e := source.Format(f); s != want || e != api.OK {
			t.Errorf("Format of %v: %q, error %d", f, s, e)
		}
	}
}

// TestFormatExpressions has each operator, and if, as each operand of each operator, and all else that is written.
func TestFormatExpressions(t *testing.T) {
	a, b, one, two := param(0), param(1), number(1), number(2)
	forms := map[string]tree{
		"a": a, "b": b, "0": number(0), "-1": number(-1), "9007199254740992": number(api.MaxValue), "-9007199254740992": number(-api.MaxValue), "g()": call("g"), "g(a)": call("g", a), "g(1, b, -2)": call("g", one, b, number(-2)), "a(a)": call("a", a),
		`read("x/y", a)`: named(api.ExprRead, "x/y", a), `size("x")`: named(api.ExprSize, "x"), `has("x.y")`: named(api.ExprHas, "x.y"), `env("if")`: named(api.ExprEnv, "if"), "flip(0)": flip(0), "flip(63)": flip(63),
		"if a then 1 else 2":                                   choice(a, one, two),
		"if if a then 1 else 2 then 1 < 2 else a - 1":          choice(choice(a, one, two), binary(api.OpLess, one, two), binary(api.OpSub, a, one)),
		"g(if a then 1 else 2, a + 1, 1 == 2)":                 call("g", choice(a, one, two), binary(api.OpAdd, a, one), binary(api.OpEqual, one, two)),
		`read("x", if a then 1 else 2)`:                        named(api.ExprRead, "x", choice(a, one, two)),
		`read("x", 1 < 2)`:                                     named(api.ExprRead, "x", binary(api.OpLess, one, two)),
		"if a then b else if 1 then a else if 2 then 1 else b": choice(a, b, choice(one, a, choice(two, one, b))),
		"-1 - -2": binary(api.OpSub, number(-1), number(-2)),
	}
	levels := map[string]int{"+": 1, "-": 1, "*": 2, "/": 2, "%": 2, "<": 0, "==": 0}
	ops := map[string]int{"+": api.OpAdd, "-": api.OpSub, "*": api.OpMul, "/": api.OpDiv, "%": api.OpMod, "<": api.OpLess, "==": api.OpEqual}
	for sign, op := range ops {
		forms["a "+sign+" -1"] = binary(op, a, number(-1))
		forms["(if a then 1 else 2) "+sign+" (if b then 1 else 2)"] = binary(op, choice(a, one, two), choice(b, one, two))
		forms["g(1) "+sign+" g(2)"] = binary(op, call("g", one), call("g", two))
		for inner, innerOp := range ops {
			in := binary(innerOp, one, two)
			left, right := "1 "+inner+" 2", "1 "+inner+" 2"
			if levels[inner] < levels[sign] || levels[sign] == 0 && levels[inner] == 0 {
				left = "(" + left + ")"
			}
			if levels[inner] <= levels[sign] {
				right = "(" + right + ")"
			}
			forms[left+" "+sign+" a"] = binary(op, in, a)
			forms["a "+sign+" "+right] = binary(op, a, in)
			forms["if a "+sign+" "+right+" then "+left+" "+sign+" "+right+" else 1 "+inner+" 2"] = choice(binary(op, a, in), binary(op, in, in), in)
		}
	}
	for want, tree := range forms {
		l := tree.put(nil)
		if s, e := source.Body(l, []string{"a", "b"}); s != want || e != api.OK {
			t.Errorf("Body of %v: %q, error %d instead of %q", l, s, e, want)
		}
		whole := "package p;\nfunc f(a, b) = " + want + ";\n"
		if s, e := source.Format(body(l...)); s != whole || e != api.OK {
			t.Errorf("Format of %v: %q, error %d instead of %q", l, s, e, whole)
		}
	}
}

// laid writes the tokens of a file with the blanks that the document asks for.
func laid(tokens []api.Token) string {
	var b strings.Builder
	unary := true // whether a sign - would belong to a number here
	for _, t := range tokens {
		s := t.Text
		switch {
		case t.Kind == api.TokenNumber:
			s = fmt.Sprint(t.Number)
		case t.Kind == api.TokenText:
			s = `"` + s + `"`
		case s == ";":
			s = ";\n"
		case s == ",":
			s = ", "
		case t.Kind == api.TokenName && slices.Contains([]string{"package", "import", "func", "test", "gen", "if"}, s):
			s += " "
		case t.Kind == api.TokenName && (s == "then" || s == "else") || t.Kind == api.TokenSign && strings.Contains("+-*/%<==", s) && !(s == "-" && unary):
			s = " " + s + " "
		}
		unary = strings.HasSuffix(s, " ") || t.Kind == api.TokenSign && t.Text == "("
		b.WriteString(s)
	}
	return b.String()
}

// plain returns the tokens of a file without parentheses, without zeros before numbers, and without the sign of -0.
func plain(s string) []string {
	l, _, _ := lexer.Tokens(s)
	var words []string
	for i, t := range l {
		switch {
		case t.Text == "(" && t.Kind == api.TokenSign, t.Text == ")" && t.Kind == api.TokenSign:
		case t.Text == "-" && l[i+1].Kind == api.TokenNumber && l[i+1].Number == 0 && !(l[i-1].Kind == api.TokenNumber || l[i-1].Text == ")" || l[i-1].Kind == api.TokenName && !slices.Contains([]string{"if", "then", "else"}, l[i-1].Text)):
		default:
			words = append(words, fmt.Sprint(t.Kind, t.Text, t.Number))
		}
	}
	return words
}

// TestRoundTrip writes and reads random sources, also with unnecessary parentheses, zeros, signs, blanks and comments.
func TestRoundTrip(t *testing.T) {
	d := dice(3)
	fit := 0
	for range 4000 {
		f := d.source()
		before := copyOf(f)
		if source.Check(f) != api.OK {
			t.Fatalf("Check of %v: error %d", f, source.Check(f))
		}
		text, e := source.Format(f)
		if e != api.OK {
			t.Fatalf("Format of %v: error %d", f, e)
		}
		if got, at, e := source.Parse(text); !equal(got, f) || at != 0 || e != api.OK {
			t.Fatalf("Parse of %q: %v, %d, error %d instead of %v", text, got, at, e, f)
		}
		tokens, _, _ := lexer.Tokens(text)
		if want := laid(tokens); text != want {
			t.Fatalf("Format: %q instead of %q", text, want)
		}
		if !equal(f, before) {
			t.Fatalf("Format changed %v", before)
		}
		long := d.spread(d.words(f))
		if len(long) > api.MaxBytes {
			continue
		}
		fit++
		got, at, e := source.Parse(long)
		if !equal(got, f) || at != 0 || e != api.OK {
			t.Fatalf("Parse of %q: %v, %d, error %d instead of %v", long, got, at, e, f)
		}
		if a, b := plain(long), plain(text); !slices.Equal(a, b) {
			t.Fatalf("%q becomes %q", long, text)
		}
	}
	if fit < 3000 {
		t.Errorf("only %d texts were short enough", fit)
	}
}

// pairs returns the offsets of the parentheses around expressions that are no arguments.
func pairs(s string) (l [][2]int) {
	tokens, _, _ := lexer.Tokens(s)
	var open []int
	for i, t := range tokens {
		switch {
		case t.Kind != api.TokenSign:
		case t.Text == "(":
			before := tokens[i-1]
			if before.Kind == api.TokenName && !slices.Contains([]string{"if", "then", "else"}, before.Text) {
				open = append(open, -1)
			} else {
				open = append(open, t.At)
			}
		case t.Text == ")":
			last := len(open) - 1
			if open[last] >= 0 {
				l = append(l, [2]int{open[last], t.At})
			}
			open = open[:last]
		}
	}
	return l
}

// TestFewParentheses takes each pair of parentheses away: what is left has another meaning, or none.
func TestFewParentheses(t *testing.T) {
	d := dice(4)
	tried := 0
	for range 2000 {
		f := file(function("f", []string{"a", "b"}, d.tree(5, 2)))
		text, e := source.Format(f)
		if e != api.OK {
			continue
		}
		for _, pair := range pairs(text) {
			without := []byte(text)
			without[pair[0]], without[pair[1]] = ' ', ' '
			if got, _, e := source.Parse(string(without)); e == api.OK && equal(got, f) {
				t.Errorf("%q means the same as %q", without, text)
			}
			tried++
		}
	}
	if tried < 2000 {
		t.Errorf("only %d pairs", tried)
	}
}

// TestFormatBytes has texts of MaxBytes bytes and of one more.
func TestFormatBytes(t *testing.T) {
	long := api.Source{Package: "p"}
	text := ""
	for i := 0; len(text) < api.MaxBytes-500; i++ {
		long.Decls = append(long.Decls, test(fmt.Sprint("t", i), row(199)))
		var e api.Errno
		if text, e = source.Format(long); e != api.OK {
			t.Fatalf("Format of %d tests: error %d", i, e)
		}
	}
	room := api.MaxBytes - len(text)
	fill := func(bytes int) api.Source {
		f := copyOf(long)
		for i := 0; bytes > 0; i++ {
			line := min(bytes, 60) // gen "..." = 1; and the byte 10 are 12 bytes and the path
			if rest := bytes - line; rest > 0 && rest < 30 {
				line -= 30
			}
			f.Decls = append(f.Decls, gen(fmt.Sprint(i, "/")+strings.Repeat("a", (line-14)/2)+"/"+strings.Repeat("b", line-15-(line-14)/2), number(1)))
			bytes -= line
		}
		return f
	}
	for more := -3; more <= 3; more++ {
		f := fill(room + more)
		s, e := source.Format(f)
		if source.Check(f) != api.OK {
			t.Fatalf("Check of the file: error %d", source.Check(f))
		}
		if more <= 0 && (e != api.OK || len(s) != api.MaxBytes+more) || more > 0 && (e != api.ErrLimit || s != "") {
			t.Errorf("Format of %d bytes: %d bytes, error %d", api.MaxBytes+more, len(s), e)
		}
	}
	var args []tree
	for range api.MaxNodes - 1 {
		args = append(args, named(api.ExprSize, goodPaths()[len(goodPaths())-1]))
	}
	great := call("f", args...).put(nil)
	if s, e := source.Body(great, nil); len(s) < api.MaxBytes || e != api.OK {
		t.Errorf("Body of %d paths: %d bytes, error %d", len(args), len(s), e)
	}
	if s, e := source.Format(body(great...)); s != "" || e != api.ErrLimit {
		t.Errorf("Format of %d paths: %d bytes, error %d", len(args), len(s), e)
	}
}

// openest returns how many parentheses are open at once in an expression whose calls have arguments.
func openest(s string) (most int) {
	open := 0
	for _, c := range s {
		switch c {
		case '(':
			open++
		case ')':
			open--
		}
		most = max(most, open)
	}
	return most
}

// TestFormatNesting has expressions whose texts are nested more deeply than their nodes.
func TestFormatNesting(t *testing.T) {
	d := dice(6)
	errors := map[api.Errno]int{}
	for range 5000 {
		tree := number(1)
		for range 25 + d.roll(50) {
			switch d.roll(4) {
			case 0:
				tree = binary(1+d.roll(7), tree, number(2))
			case 1, 2:
				tree = binary(1+d.roll(7), number(2), tree)
			default:
				tree = call("f", number(2), tree)
			}
		}
		l := tree.put(nil)
		text, e := source.Body(l, nil)
		if check := source.Check(file(test("t", tree))); check != api.OK || e != api.OK {
			if check != e {
				t.Fatalf("Body: error %d, Check: error %d", e, check)
			}
			continue
		}
		want := api.OK
		if openest(text)+1 > api.MaxNesting {
			want = api.ErrLimit
		}
		s, e := source.Format(file(test("t", tree)))
		if e != want || e == api.OK && s != "package p;\ntest t = "+text+";\n" || e != api.OK && s != "" {
			t.Fatalf("Format of %q: %q, error %d instead of %d", text, s, e, want)
		}
		errors[e]++
	}
	if errors[api.OK] < 500 || errors[api.ErrLimit] < 500 {
		t.Errorf("errors: %v", errors)
	}
	// Each second level is an operand of if, which has no parentheses.
	tree := number(1)
	for i := range api.MaxNesting - 1 {
		if tree = choice(number(1), number(2), tree); i == api.MaxNesting/2 {
			tree = binary(api.OpAdd, tree, number(1))
		}
	}
	if s, e := source.Format(file(test("t", tree))); s != "" || e != api.ErrLimit || source.Check(file(test("t", tree))) != api.OK {
		t.Errorf("Format of an if in a sum in %d if: %q, error %d", api.MaxNesting/2, s, e)
	}
}

func TestBodyErrors(t *testing.T) {
	one, first := number(1).put(nil), param(0).put(nil)
	for _, c := range []struct {
		name   string
		l      []api.Expr
		params []string
		e      api.Errno
	}{
		{"nothing", nil, nil, api.ErrSyntax}, {"no parameter", first, nil, api.ErrSyntax}, {"a parameter too few", param(1).put(nil), []string{"a"}, api.ErrSyntax}, {"a reserved parameter", one, []string{"if"}, api.ErrSyntax}, {"no name", one, []string{""}, api.ErrSyntax}, {"two numbers", append(number(1).put(nil), one...), nil, api.ErrSyntax},
		{"a parameter twice", first, []string{"a", "b", "a"}, api.ErrTwice}, {"a parameter twice, and a wrong one", first, []string{"a", "a", "A"}, api.ErrSyntax}, {"a parameter twice among too many", first, append(names("a", 10), "a0"), api.ErrTwice},
		{"too many parameters", first, names("a", api.MaxParams+1), api.ErrLimit}, {"too many nodes", row(api.MaxNodes + 1).put(nil), nil, api.ErrLimit}, {"too deep", chain(api.MaxNesting+1, call("f")).put(nil), nil, api.ErrLimit},
		{"parameters", first, names("a", api.MaxParams), api.OK}, {"nodes", row(api.MaxNodes - 1).put(nil), nil, api.OK}, {"depth", chain(api.MaxNesting, call("f")).put(nil), nil, api.OK}, {"the names f and p", call("f", param(0), param(1)).put(nil), []string{"f", "p"}, api.OK},
	} {
		l, params := copyOf(body(c.l...)).Decls[0].Body, slices.Clone(c.params)
		s, e := source.Body(l, params)
		if e != c.e || (s == "") != (e != api.OK) {
			t.Errorf("Body, %s: %q, error %d", c.name, s, e)
		}
		if !equal(body(l...), body(c.l...)) || !slices.Equal(params, c.params) {
			t.Errorf("Body, %s, changed its arguments", c.name)
		}
	}
}

// TestTextsAreNew looks whether a text that is a single word of the source is a part of its memory.
func TestTextsAreNew(t *testing.T) {
	params := []string{strings.Clone("parameter")}
	s, e := source.Body(param(0).put(nil), params)
	if s != "parameter" || e != api.OK || unsafe.StringData(s) == unsafe.StringData(params[0]) {
		t.Errorf("Body of a parameter: %q, error %d", s, e)
	}
	text := "package pack; import name; func f(parameter) = g(size(\"path\"));"
	f, _, _ := source.Parse(text)
	begin := uintptr(unsafe.Pointer(unsafe.StringData(text)))
	for _, part := range []string{f.Package, f.Imports[0], f.Decls[0].Name, f.Decls[0].Params[0], f.Decls[0].Body[0].Name, f.Decls[0].Body[1].Name} {
		if at := uintptr(unsafe.Pointer(unsafe.StringData(part))); at >= begin && at < begin+uintptr(len(text)) {
			t.Errorf("Parse returns %q as a part of the text", part)
		}
	}
}
