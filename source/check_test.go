package source_test

import (
	"fmt"
	"math"
	"slices"
	"strings"
	"testing"

	"testgate/api"
	"testgate/source"
)

// wantCheck checks a source, also the errors of Format and that neither changes it.
func wantCheck(t *testing.T, name string, f api.Source, e api.Errno) {
	t.Helper()
	before := copyOf(f)
	if got := source.Check(f); got != e {
		t.Errorf("Check of %s: error %d instead of %d", name, got, e)
	}
	if s, got := source.Format(f); e != api.OK && (got != e || s != "") {
		t.Errorf("Format of %s: %.100q, error %d instead of %d", name, s, got, e)
	}
	if !equal(f, before) {
		t.Errorf("%s was changed", name)
	}
}

// body returns a source whose only function, with the parameters a and b, has this body.
func body(l ...api.Expr) api.Source {
	return file(api.Decl{Kind: api.DeclFunc, Name: "f", Params: []string{"a", "b"}, Body: l})
}

// badNames returns texts that are no names.
func badNames() []string {
	return []string{"", "A", "1", "_a", "a.b", "a/b", "a b", "a-", "\u00e9", strings.Repeat("a", api.MaxName+1), "a\x00"}
}

// goodNames returns names that are not reserved.
func goodNames() []string {
	return []string{"z", "a_9", strings.Repeat("a", api.MaxName), "tests", "if_", "thenelse"}
}

// reservedWords returns all words that are reserved.
func reservedWords() []string {
	return strings.Fields("package import func test gen if then else read size has env flip")
}

// badPaths returns texts that are no paths.
func badPaths() []string {
	return []string{"", "/", "a/", "/a", "a//b", "A", "a b", "a-b", "\u00e9", strings.Repeat("a", api.MaxName+1), strings.Repeat("a/", api.MaxParts) + "a", strings.Repeat("abcdefghijk/", 6) + "abcdefghi"}
}

// goodPaths returns paths.
func goodPaths() []string {
	return []string{"a", "if", ".", "9", "_", strings.Repeat("a", api.MaxName), strings.Repeat("a/", api.MaxParts-1) + "a", strings.Repeat("abcdefghijk/", 6) + "abcdefgh"}
}

func TestCheckNames(t *testing.T) {
	one := number(1)
	names := map[string]func(s string) api.Source{
		"a package":   func(s string) api.Source { return api.Source{Package: s} },
		"an import":   func(s string) api.Source { return api.Source{Package: "p", Imports: []string{"q", s}} },
		"a function":  func(s string) api.Source { return file(function(s, nil, one)) },
		"a test":      func(s string) api.Source { return file(test("t", one), test(s, one)) },
		"a parameter": func(s string) api.Source { return file(function("f", []string{"b", s}, one)) },
		"a call":      func(s string) api.Source { return file(test("t", call(s))) },
	}
	paths := map[string]func(s string) api.Source{
		"a gen":  func(s string) api.Source { return file(gen(s, one)) },
		"a read": func(s string) api.Source { return file(test("t", named(api.ExprRead, s, one))) },
		"a size": func(s string) api.Source { return file(test("t", named(api.ExprSize, s))) },
		"a has":  func(s string) api.Source { return file(test("t", named(api.ExprHas, s))) },
	}
	variable := func(s string) api.Source { return file(test("t", named(api.ExprEnv, s))) }
	for _, c := range []struct {
		texts []string
		uses  map[string]func(s string) api.Source
		e     api.Errno
	}{
		{badNames(), names, api.ErrSyntax}, {goodNames(), names, api.OK}, {reservedWords(), names, api.ErrSyntax},
		{badPaths(), paths, api.ErrSyntax}, {goodPaths(), paths, api.OK}, {reservedWords(), paths, api.OK},
		{badNames(), map[string]func(s string) api.Source{"an env": variable}, api.ErrSyntax}, {slices.Concat(goodNames(), reservedWords()), map[string]func(s string) api.Source{"an env": variable}, api.OK},
	} {
		for use, make := range c.uses {
			for _, s := range c.texts {
				wantCheck(t, fmt.Sprintf("%s %q", use, s), make(s), c.e)
			}
		}
	}
}

func TestCheckDeclarations(t *testing.T) {
	one := number(1).put(nil)
	for kind := -1; kind <= 5; kind++ {
		e := api.ErrSyntax
		if kind >= api.DeclFunc && kind <= api.DeclGen {
			e = api.OK
		}
		wantCheck(t, fmt.Sprintf("a declaration of kind %d", kind), file(api.Decl{Kind: kind, Name: "f", Body: one}), e)
		wantCheck(t, fmt.Sprintf("a declaration of kind %d without body", kind), file(api.Decl{Kind: kind, Name: "f"}), api.ErrSyntax)
		wantCheck(t, fmt.Sprintf("a declaration of kind %d with an empty body", kind), file(api.Decl{Kind: kind, Name: "f", Params: []string{}, Body: []api.Expr{}}), api.ErrSyntax)
		if kind != api.DeclFunc {
			e = api.ErrSyntax
		}
		wantCheck(t, fmt.Sprintf("a declaration of kind %d with parameters", kind), file(api.Decl{Kind: kind, Name: "f", Params: []string{"x"}, Body: one}), e)
	}
	for name, c := range map[string]struct {
		f api.Source
		e api.Errno
	}{
		"nothing": {api.Source{}, api.ErrSyntax}, "a package alone": {api.Source{Package: "p"}, api.OK}, "empty lists": {api.Source{Package: "p", Imports: []string{}, Decls: []api.Decl{}}, api.OK},
		"no kind":                             {file(api.Decl{Name: "f", Body: one}), api.ErrSyntax},
		"kinds that are great":                {file(api.Decl{Kind: math.MaxInt, Name: "f", Body: one}, api.Decl{Kind: math.MinInt, Name: "f", Body: one}), api.ErrSyntax},
		"a wrong second declaration":          {file(test("t", number(1)), api.Decl{}), api.ErrSyntax},
		"a parameter with the file's names":   {api.Source{Package: "p", Imports: []string{"q"}, Decls: []api.Decl{function("f", []string{"f", "p", "q"}, param(2))}}, api.OK},
		"a function with the name of imports": {api.Source{Package: "p", Imports: []string{"q"}, Decls: []api.Decl{function("q", nil, call("q", number(1)))}}, api.OK},
		"the parameters of another function":  {file(function("f", []string{"a"}, number(1)), function("g", nil, param(0))), api.ErrSyntax},
	} {
		wantCheck(t, name, c.f, c.e)
	}
}

// right returns a node of each kind as the last one of a body, with the parameters a and b.
func right() map[string]tree {
	return map[string]tree{
		"number": number(1), "param": param(1), "call": call("g", number(1), param(0)), "call without arguments": call("g"), "binary": binary(api.OpMod, number(1), param(0)), "if": choice(param(0), number(1), number(2)),
		"read": named(api.ExprRead, "a", param(0)), "size": named(api.ExprSize, "a"), "has": named(api.ExprHas, "a"), "env": named(api.ExprEnv, "a"), "flip": flip(1),
	}
}

// TestCheckFields gives each kind of node all fields that it does not use, and takes away those that it does.
func TestCheckFields(t *testing.T) {
	for name, tree := range right() {
		l := tree.put(nil)
		last := len(l) - 1
		kind := l[last].Kind
		wantCheck(t, name, body(l...), api.OK)
		change := func(what string, allowed bool, set func(n *api.Expr)) {
			l := copyOf(body(l...)).Decls[0].Body
			set(&l[last])
			e := api.ErrSyntax
			if allowed {
				e = api.OK
			}
			wantCheck(t, name+what, body(l...), e)
		}
		hasNumber := kind == api.ExprNumber || kind == api.ExprParam || kind == api.ExprFlip
		hasName := kind == api.ExprCall || kind >= api.ExprRead && kind <= api.ExprEnv
		for _, n := range []int{-1, math.MinInt, math.MaxInt, 1, api.MaxFlips, 2} {
			allowed := kind == api.ExprNumber && n >= -api.MaxValue && n <= api.MaxValue || hasNumber && n == 1 || kind == api.ExprFlip && n == 2
			change(fmt.Sprint(" with the number ", n), allowed, func(x *api.Expr) { x.Number = n })
		}
		for op := -1; op <= 9; op++ {
			change(fmt.Sprint(" with the operator ", op), op == 0 && kind != api.ExprBinary || kind == api.ExprBinary && op >= api.OpAdd && op <= api.OpEqual, func(n *api.Expr) { n.Op = op })
		}
		change(" with a name", hasName, func(n *api.Expr) { n.Name = "x" })
		change(" without a name", !hasName, func(n *api.Expr) { n.Name = "" })
		change(" with no arguments", len(l) == 1, func(n *api.Expr) { n.Args = nil })
		change(" with empty arguments", len(l) == 1, func(n *api.Expr) { n.Args = []int{} })
		change(" with an argument that is not there", false, func(n *api.Expr) { n.Args = append(n.Args, -1) })
		change(" with itself as an argument", false, func(n *api.Expr) { n.Args = append(n.Args, last) })
		change(" with an argument behind it", false, func(n *api.Expr) { n.Args = append(n.Args, last+1) })
		change(" with great arguments", false, func(n *api.Expr) { n.Args = append(n.Args, math.MaxInt, math.MinInt) })
		for _, other := range []int{0, 11, -1, math.MaxInt} {
			change(fmt.Sprint(" with the kind ", other), false, func(n *api.Expr) { n.Kind = other })
		}
		// With another number of operands in front of it, a node is right only if it is a call.
		for n := range 5 {
			more := number(1)
			l := []api.Expr{}
			node := tree.node
			for i := range n {
				l = more.put(l)
				node.Args = append(node.Args, i)
			}
			e := api.ErrSyntax
			if kind == api.ExprCall || n == len(tree.args) {
				e = api.OK
			}
			wantCheck(t, fmt.Sprint(name, " with ", n, " operands"), body(append(l, node)...), e)
		}
	}
}

func TestCheckNumbers(t *testing.T) {
	for n, e := range map[int]api.Errno{0: api.OK, api.MaxValue: api.OK, -api.MaxValue: api.OK, api.MaxValue + 1: api.ErrSyntax, -api.MaxValue - 1: api.ErrSyntax, math.MaxInt: api.ErrSyntax, math.MinInt: api.ErrSyntax} {
		wantCheck(t, fmt.Sprint("number ", n), file(test("t", number(n))), e)
	}
	for n, e := range map[int]api.Errno{0: api.OK, api.MaxFlips - 1: api.OK, api.MaxFlips: api.ErrSyntax, -1: api.ErrSyntax, math.MinInt: api.ErrSyntax} {
		wantCheck(t, fmt.Sprint("flip ", n), file(test("t", flip(n))), e)
	}
	for n := -2; n < 5; n++ {
		for params := range 4 {
			e := api.ErrSyntax
			if n >= 0 && n < params {
				e = api.OK
			}
			wantCheck(t, fmt.Sprint("parameter ", n, " of ", params), file(function("f", []string{"a", "b", "c"}[:params], param(n))), e)
		}
		wantCheck(t, fmt.Sprint("parameter ", n, " of a gen"), file(gen("g", param(n))), api.ErrSyntax)
	}
}

// below returns a node and all nodes below it, ascending; each as often as it is reached.
func below(l []api.Expr, i int) []int {
	found := []int{i}
	for _, arg := range l[i].Args {
		found = append(found, below(l, arg)...)
	}
	slices.Sort(found)
	return found
}

// inOrder tells whether an expression has the right order, in the words of the document.
func inOrder(l []api.Expr) bool {
	uses := make([]int, len(l))
	for i, n := range l {
		for _, arg := range n.Args {
			if arg < 0 || arg >= i {
				return false
			}
			uses[arg]++
		}
	}
	for i := range l {
		if i < len(l)-1 && uses[i] != 1 || i == len(l)-1 && uses[i] != 0 {
			return false
		}
	}
	for i, n := range l {
		var parts []int
		for _, arg := range n.Args {
			parts = append(parts, below(l, arg)...)
		}
		for k, part := range parts {
			if part != i-len(parts)+k {
				return false
			}
		}
	}
	return true
}

// eachList calls visit with all lists of at most so many numbers from 0 to n.
func eachList(most, n int, visit func(l []int)) {
	var grow func(l []int)
	grow = func(l []int) {
		visit(slices.Clone(l))
		if len(l) < most {
			for i := 0; i <= n; i++ {
				grow(append(l, i))
			}
		}
	}
	grow(nil)
}

// TestCheckOrder compares Check with the definition of the order for all calls of few arguments in short bodies.
func TestCheckOrder(t *testing.T) {
	var args [][]int
	eachList(3, 3, func(l []int) { args = append(args, l) })
	right := 0
	var grow func(l []api.Expr)
	grow = func(l []api.Expr) {
		if len(l) > 0 {
			want := api.ErrSyntax
			if inOrder(l) {
				want = api.OK
				right++
			}
			if e := source.Check(body(l...)); e != want {
				t.Errorf("Check of %v: error %d instead of %d", l, e, want)
			}
		}
		for _, a := range args {
			if len(l) == 3 && len(a) == 0 || len(l) == 4 {
				continue // an argument too few for all that stands before it
			}
			if len(l) < 3 && slices.Contains(a, 3) {
				continue
			}
			grow(append(l, api.Expr{Kind: api.ExprCall, Name: "g", Args: a}))
		}
	}
	grow(nil)
	if right != 1+1+2+5 {
		t.Errorf("%d bodies are in order", right) // the trees with 1 to 4 nodes
	}
}

// TestCheckChangedOrder changes the arguments of right expressions.
func TestCheckChangedOrder(t *testing.T) {
	d := dice(2)
	for range 3000 {
		l := d.tree(5, 2).put(nil)
		if len(l) > api.MaxNodes {
			continue
		}
		wantCheck(t, "a random body", body(l...), api.OK)
		i := d.roll(len(l))
		if len(l[i].Args) == 0 {
			continue
		}
		k := d.roll(len(l[i].Args))
		l[i].Args[k] += []int{1, -1, -l[i].Args[k], len(l), -len(l) - 1}[d.roll(5)]
		e := api.ErrSyntax
		if inOrder(l) {
			e = api.OK
		}
		wantCheck(t, "a random body with a changed argument", body(l...), e)
	}
}

// TestOrderOfErrors has sources with all errors of some kinds, of which the first kind is told.
func TestOrderOfErrors(t *testing.T) {
	one := number(1)
	syntax := map[string]func(f *api.Source){
		"package": func(f *api.Source) { f.Package = "if" },
		"import":  func(f *api.Source) { f.Imports = append(f.Imports, "1") },
		"decl":    func(f *api.Source) { f.Decls = append(f.Decls, api.Decl{Kind: api.DeclTest, Name: "t"}) },
		"node":    func(f *api.Source) { f.Decls = append(f.Decls, test("last", call("if"))) },
		"param":   func(f *api.Source) { f.Decls = append(f.Decls, function("last", []string{"else"}, one)) },
	}
	twice := map[string]func(f *api.Source){
		"own import": func(f *api.Source) { f.Imports = append(f.Imports, f.Package) },
		"import":     func(f *api.Source) { f.Imports = append(f.Imports, "x", "y", "x") },
		"function": func(f *api.Source) {
			f.Decls = append(f.Decls, function("x", nil, one), test("y", one), function("x", nil, one))
		},
		"test":           func(f *api.Source) { f.Decls = append(f.Decls, test("x", one), test("x", one)) },
		"gen":            func(f *api.Source) { f.Decls = append(f.Decls, gen("x", one), function("y", nil, one), gen("x", one)) },
		"param":          func(f *api.Source) { f.Decls = append(f.Decls, function("x", []string{"a", "b", "a"}, one)) },
		"param at great": func(f *api.Source) { f.Decls = append(f.Decls, function("x", append(names("a", 20), "a3"), one)) },
	}
	limit := map[string]func(f *api.Source){
		"imports": func(f *api.Source) { f.Imports = append(f.Imports, names("i", api.MaxImports+1)...) },
		"decls": func(f *api.Source) {
			for _, name := range names("d", api.MaxDecls+1) {
				f.Decls = append(f.Decls, test(name, one))
			}
		},
		"params":  func(f *api.Source) { f.Decls = append(f.Decls, function("q", names("a", api.MaxParams+1), one)) },
		"nodes":   func(f *api.Source) { f.Decls = append(f.Decls, test("q", row(api.MaxNodes+1))) },
		"nesting": func(f *api.Source) { f.Decls = append(f.Decls, gen("q", chain(api.MaxNesting+1, call("f")))) },
	}
	nothing := map[string]func(f *api.Source){"nothing": func(f *api.Source) {}}
	for _, c := range []struct {
		first, second, third map[string]func(f *api.Source)
		e                    api.Errno
	}{
		{nothing, nothing, nothing, api.OK}, {limit, nothing, nothing, api.ErrLimit}, {limit, limit, nothing, api.ErrLimit}, {twice, nothing, nothing, api.ErrTwice}, {limit, twice, nothing, api.ErrTwice}, {twice, limit, nothing, api.ErrTwice}, {syntax, nothing, nothing, api.ErrSyntax}, {syntax, limit, twice, api.ErrSyntax}, {limit, twice, syntax, api.ErrSyntax}, {twice, syntax, limit, api.ErrSyntax},
	} {
		for a, first := range c.first {
			for b, second := range c.second {
				for z, third := range c.third {
					f := api.Source{Package: "p", Imports: []string{"q"}, Decls: []api.Decl{function("f", nil, one)}}
					first(&f)
					second(&f)
					third(&f)
					if a != b {
						wantCheck(t, fmt.Sprint(a, ", ", b, ", ", z), f, c.e)
					}
				}
			}
		}
	}
	same := api.Source{Package: "p", Imports: []string{"f", "t"}, Decls: []api.Decl{function("x", []string{"x", "p"}, one), test("x", one), gen("x", one), function("y", []string{"x", "p"}, one), gen("y", one)}}
	wantCheck(t, "names that may occur several times", same, api.OK)
}

// names returns so many names.
func names(s string, n int) []string {
	var l []string
	for i := range n {
		l = append(l, fmt.Sprint(s, i))
	}
	return l
}

// row returns a sum with n nodes; n is odd.
func row(n int) tree {
	t := number(1)
	for range n / 2 {
		t = binary(api.OpAdd, t, number(1))
	}
	return t
}

// chain returns n expressions, each one in the one before it, the last one being of the depth n. They are made from a node that gets the next one as its last operand.
func chain(n int, node tree) tree {
	t := number(1)
	for range n - 1 {
		outer := node
		outer.args = append(slices.Clone(node.args), t)
		t = outer
	}
	return t
}

func TestCheckLimits(t *testing.T) {
	one := number(1)
	for more := range 2 {
		e := api.OK
		if more > 0 {
			e = api.ErrLimit
		}
		wantCheck(t, "imports", api.Source{Package: "p", Imports: names("i", api.MaxImports+more)}, e)
		wantCheck(t, "parameters", file(function("f", names("a", api.MaxParams+more), one)), e)
		wantCheck(t, "parameters of the last function", file(function("f", names("a", api.MaxParams), one), function("g", names("a", api.MaxParams+more), one)), e)
		var decls []api.Decl
		for i := range api.MaxDecls + more {
			decls = append(decls, []api.Decl{test(fmt.Sprint("t", i), one), gen(fmt.Sprint(i), one), function(fmt.Sprint("f", i), nil, one)}[i%3])
		}
		wantCheck(t, "declarations", file(decls...), e)
		wantCheck(t, "nodes of a sum", file(test("t", row(api.MaxNodes-1+2*more))), e)
		wantCheck(t, "nodes", file(test("t", one), test("u", call("f", row(api.MaxNodes-1+2*more)))), e)
		var args []tree
		for range api.MaxNodes - 1 + more {
			args = append(args, one)
		}
		wantCheck(t, "arguments", file(test("t", call("f", args...))), e)
		for name, node := range map[string]tree{"calls": call("f"), "second arguments": call("f", one), "third operands of if": choice(one, one, one), "read": named(api.ExprRead, "a")} {
			if node.node.Kind == api.ExprIf {
				node.args = node.args[:2]
			}
			wantCheck(t, "nested "+name, file(test("t", chain(api.MaxNesting+more, node))), e)
			wantCheck(t, "in a sum, nested "+name, file(test("t", binary(api.OpSub, one, chain(api.MaxNesting+more, node)))), e)
			wantCheck(t, "in another declaration, nested "+name, file(test("s", chain(api.MaxNesting, node)), test("t", chain(api.MaxNesting+more, node))), e)
		}
		for place := range 3 {
			in := one
			for range api.MaxNesting - 1 + more {
				args := []tree{one, one, one}
				args[place] = in
				in = choice(args[0], args[1], args[2])
			}
			wantCheck(t, fmt.Sprint("nested in the operand ", place, " of if"), file(test("t", in)), e)
		}
	}
	for _, op := range []int{api.OpAdd, api.OpLess} {
		right := one
		for range (api.MaxNodes - 1) / 2 {
			right = binary(op, one, right)
		}
		if e := source.Check(file(test("t", right))); e != api.OK {
			t.Errorf("operators in right operands are nested: error %d", e)
		}
	}
}

// TestHugeSources has sources far beyond the limits.
func TestHugeSources(t *testing.T) {
	const n = 1 << 18
	var nested, flat []api.Expr
	for i := range n {
		node := api.Expr{Kind: api.ExprCall, Name: "f"}
		if i > 0 {
			node.Args = []int{i - 1}
		}
		nested = append(nested, node)
		flat = append(flat, api.Expr{Kind: api.ExprNumber})
	}
	all := api.Expr{Kind: api.ExprCall, Name: "f"}
	for i := range n {
		all.Args = append(all.Args, i)
	}
	many := api.Source{Package: "p", Imports: names("i", n), Decls: []api.Decl{function("f", names("a", n), number(1))}}
	for name, c := range map[string]struct {
		f api.Source
		e api.Errno
	}{"nested": {body(nested...), api.ErrLimit}, "flat": {body(flat...), api.ErrSyntax}, "arguments": {body(append(flat, all)...), api.ErrLimit}, "names": {many, api.ErrLimit}} {
		if e := source.Check(c.f); e != c.e {
			t.Errorf("Check of a huge source, %s: error %d", name, e)
		}
		if s, e := source.Format(c.f); s != "" || e != c.e {
			t.Errorf("Format of a huge source, %s: error %d", name, e)
		}
	}
	if s, e := source.Body(nested, nil); s != "" || e != api.ErrLimit {
		t.Errorf("Body of a huge expression: error %d", e)
	}
}
