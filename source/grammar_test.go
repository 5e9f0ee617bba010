package source_test

import (
	"fmt"
	"go/ast"
	"go/parser"
	"go/token"
	"slices"
	"strconv"
	"strings"
	"testing"

	"testgate/api"
	"testgate/lexer"
	"testgate/source"
)

// grammar is that of the document: what is made, and its parts. A string is a path and a variable at once, a param is a name that is a parameter, and a callee a name in front of (.
const grammar = `
file: package name ; imports decls
imports:
imports: imports import name ;
decls:
decls: decls decl
decl: func name ( ) = expr ;
decl: func name ( names ) = expr ;
decl: test name = expr ;
decl: gen string = expr ;
names: name
names: names , name
expr: if expr then expr else expr
expr: compare
compare: sum
compare: sum < sum
compare: sum == sum
sum: term
sum: sum + term
sum: sum - term
term: factor
term: term * factor
term: term / factor
term: term % factor
factor: number
factor: - number
factor: param
factor: callee ( )
factor: callee ( exprs )
factor: ( expr )
factor: read ( string , expr )
factor: size ( string )
factor: has ( string )
factor: env ( string )
factor: flip ( number )
exprs: expr
exprs: exprs , expr
`

// rule says that a word stands for its parts.
type rule struct {
	made  string
	parts []string
}

// item is a rule of which dot parts were found from the token begin on.
type item struct{ rule, dot, begin int }

// reader finds the first token that a grammar does not allow, by following all rules at the same time (Earley's way).
type reader struct {
	rules  []rule
	made   map[string]bool
	params map[string]bool // names that are parameters
	sets   [][]item        // the items behind so many tokens
}

func newReader(params ...string) *reader {
	r := &reader{made: map[string]bool{}, params: map[string]bool{}}
	for _, line := range strings.Split(strings.TrimSpace(grammar), "\n") {
		made, parts, _ := strings.Cut(line, ":")
		r.rules = append(r.rules, rule{made, strings.Fields(parts)})
		r.made[made] = true
	}
	for _, name := range params {
		r.params[name] = true
	}
	r.begin()
	return r
}

// begin makes the set in front of the first token.
func (r *reader) begin() {
	r.sets = [][]item{nil}
	r.add(item{})
	r.close()
}

func (r *reader) add(i item) {
	last := len(r.sets) - 1
	if !slices.Contains(r.sets[last], i) {
		r.sets[last] = append(r.sets[last], i)
	}
}

// next returns what an item asks for, or "" if it is complete.
func (r *reader) next(i item) string {
	if i.dot == len(r.rules[i.rule].parts) {
		return ""
	}
	return r.rules[i.rule].parts[i.dot]
}

// close adds to the last set what its items ask for, and what has been completed. Empty rules are completed at once.
func (r *reader) close() {
	last := len(r.sets) - 1
	for k := 0; k < len(r.sets[last]); k++ {
		i := r.sets[last][k]
		want := r.next(i)
		if want == "" {
			made := r.rules[i.rule].made
			for _, other := range r.sets[i.begin] {
				if r.next(other) == made {
					r.add(item{other.rule, other.dot + 1, other.begin})
				}
			}
			continue
		}
		for n, rule := range r.rules {
			if rule.made == want {
				r.add(item{n, 0, last})
				if len(rule.parts) == 0 {
					r.add(item{i.rule, i.dot + 1, i.begin})
				}
			}
		}
	}
}

// fits tells whether a token, with another one behind it, is what an item asks for.
func (r *reader) fits(want string, t, next api.Token) bool {
	words := strings.Fields("package import func test gen if then else read size has env flip")
	switch t.Kind {
	case api.TokenNumber:
		return want == "number"
	case api.TokenText:
		return want == "string"
	case api.TokenName:
		if !slices.Contains(words, t.Text) {
			return want == "name" || want == "param" && r.params[t.Text] || want == "callee" && next.Kind == api.TokenSign && next.Text == "("
		}
	}
	return !r.made[want] && want == t.Text
}

// read goes on with a token, and returns false if the grammar does not allow it here.
func (r *reader) read(t, next api.Token) bool {
	var found []item
	for _, i := range r.sets[len(r.sets)-1] {
		if want := r.next(i); want != "" && r.fits(want, t, next) {
			found = append(found, item{i.rule, i.dot + 1, i.begin})
		}
	}
	if found == nil {
		return false
	}
	r.sets = append(r.sets, found)
	r.close()
	return true
}

// ended tells whether the file may end here.
func (r *reader) ended() bool {
	return slices.ContainsFunc(r.sets[len(r.sets)-1], func(i item) bool { return i.rule == 0 && r.next(i) == "" })
}

// mistake returns the offset of the first token that the grammar does not allow, and false if there is one.
func (r *reader) mistake(s string) (at int, ok bool) {
	l, _, _ := lexer.Tokens(s)
	r.begin()
	for i, t := range l[:len(l)-1] {
		if !r.read(t, l[i+1]) {
			return t.At, false
		}
	}
	if !r.ended() {
		return l[len(l)-1].At, false
	}
	return 0, true
}

// TestAllShortTexts goes on after some beginnings with all short lists of words. The names of a list are numbered, so that none occurs twice; only a is a parameter.
func TestAllShortTexts(t *testing.T) {
	for _, c := range []struct {
		begin, words string
		most         int
	}{
		{"", "package import func gen p ; 1", 4},
		{"package p ;", "package import func test gen p ; ( ) , = == 1 \"x\"", 4},
		{"package p ; func f ( a", "package func p ; ( ) , = == 1 \"x\" - if", 4},
		{"package p ; func f ( a ) =", "package import func test gen if then else read size has env flip a p ; ( ) + - * / % < == = 1 \"x\" ,", 3},
		{"package p ; func f ( a ) =", "a 1 ( ) , + < == ;", 5},
		{"package p ; func f ( a ) =", "if then else a ( ) < ;", 5},
		{"package p ; func f ( a ) = 1 - ", "- * a 1 p ( ) ;", 5},
		{"package p ; func f ( a ) = p (", "read size flip env \"x\" 1 ( ) ,", 5},
		{"package p ; func f ( a ) = if a then 1 else a ;", "func test gen p = 1 \"x\" ;", 5},
	} {
		r := newReader("a")
		words := strings.Fields(c.words)
		compareTexts(t, r, c.begin, words, c.most)
	}
}

// compareTexts compares Parse with the reader for a text and for all of its continuations by at most so many words.
func compareTexts(t *testing.T, r *reader, s string, words []string, most int) {
	at, ok := r.mistake(s)
	_, got, e := source.Parse(s)
	if got != at || ok != (e == api.OK) || !ok && e != api.ErrSyntax {
		t.Errorf("Parse of %q: %d, error %d instead of %d, %t", s, got, e, at, ok)
	}
	if most == 0 || !ok && at < len(s) {
		return
	}
	for _, word := range words {
		if word == "p" {
			word = fmt.Sprint("p", len(s))
		}
		compareTexts(t, r, s+" "+word, words, most-1)
	}
}

// TestChangedWords deletes, doubles, swaps and replaces each word of a file.
func TestChangedWords(t *testing.T) {
	words := strings.Fields(`package p ; import q ; func f ( a ) = if a + 1 < 2 then g ( a , - 3 * ( a - 4 ) ) else read ( "x" , if h ( ) == size ( "y" ) then has ( "z" ) else env ( "v" ) / flip ( 5 ) % a ) ;`)
	others := strings.Fields(`package import func test gen if then else read size has env flip a b ; , ( ) + - * / % < = == 7 "w"`)
	r := newReader("a")
	param := slices.Index(words, "a")
	compare := func(l []string) {
		s := strings.Join(l, " ")
		at, ok := r.mistake(s)
		_, got, e := source.Parse(s)
		if got != at || ok != (e == api.OK) || !ok && e != api.ErrSyntax {
			t.Errorf("Parse of %q: %d, error %d instead of %d, %t", s, got, e, at, ok)
		}
	}
	compare(words)
	for i := range words {
		compare(words[:i])
		if i >= param-1 && i <= param+1 {
			continue // a is to stay the parameter, and the only one
		}
		compare(slices.Delete(slices.Clone(words), i, i+1))
		compare(slices.Insert(slices.Clone(words), i, words[i]))
		for _, word := range others {
			l := slices.Clone(words)
			l[i] = word
			compare(l)
			compare(slices.Insert(slices.Clone(words), i, word))
		}
		if i+1 < len(words) {
			l := slices.Clone(words)
			l[i], l[i+1] = l[i+1], l[i]
			compare(l)
		}
	}
}

// infix returns an expression without if whose operators mean the same in Go, except that Go allows more than one of < and == in a row.
func (d *dice) infix(depth int) string {
	var b strings.Builder
	for i := range 1 + d.roll(6) {
		if i > 0 {
			b.WriteString(d.pick(" + ", " - ", " * ", " / ", " % ", " - ", " * ", " < ", " == "))
		}
		switch k := d.roll(10); {
		case depth > 0 && k == 0:
			b.WriteString("(" + d.infix(depth-1) + ")")
		case depth > 0 && k == 1:
			b.WriteString("f(" + d.infix(depth-1) + ", " + d.infix(depth-1) + ")")
		case depth > 0 && k == 2:
			b.WriteString("read(\"x\", " + d.infix(depth-1) + ")")
		default:
			b.WriteString(d.pick("a", "b", "1", "20", "-3", "f()", "flip(4)"))
		}
	}
	return b.String()
}

// goTree returns the tree of an expression of Go. Of the operators that follow < or == in the same row, it keeps the least offset.
func goTree(n ast.Expr, wrong *int) tree {
	var t tree
	switch n := n.(type) {
	case *ast.BasicLit:
		t.node.Kind = api.ExprNumber
		t.node.Number, _ = strconv.Atoi(n.Value)
	case *ast.UnaryExpr:
		t = goTree(n.X, wrong)
		t.node.Number = -t.node.Number
	case *ast.Ident:
		t.node.Kind, t.node.Number = api.ExprParam, int(n.Name[0]-'a')
	case *ast.ParenExpr:
		t = goTree(n.X, wrong)
	case *ast.CallExpr:
		t.node.Kind, t.node.Name = api.ExprCall, n.Fun.(*ast.Ident).Name
		args := n.Args
		switch t.node.Name {
		case "read":
			t.node.Kind, t.node.Name, args = api.ExprRead, "x", args[1:]
		case "flip":
			return flip(goTree(args[0], wrong).node.Number)
		}
		for _, arg := range args {
			t.args = append(t.args, goTree(arg, wrong))
		}
	case *ast.BinaryExpr:
		compares := func(n ast.Expr) bool {
			b, ok := n.(*ast.BinaryExpr)
			return ok && (b.Op == token.LSS || b.Op == token.EQL)
		}
		if at := int(n.OpPos) - 1; compares(n) && compares(n.X) && (*wrong < 0 || at < *wrong) {
			*wrong = at
		}
		ops := map[token.Token]int{token.ADD: api.OpAdd, token.SUB: api.OpSub, token.MUL: api.OpMul, token.QUO: api.OpDiv, token.REM: api.OpMod, token.LSS: api.OpLess, token.EQL: api.OpEqual}
		t = binary(ops[n.Op], goTree(n.X, wrong), goTree(n.Y, wrong))
	}
	return t
}

// TestAgainstGo compares the trees of expressions with those that Go's own parser finds.
func TestAgainstGo(t *testing.T) {
	d := dice(1)
	right := 0
	for range 20000 {
		s := d.infix(2)
		n, err := parser.ParseExpr(s)
		if err != nil {
			t.Fatal(s, err)
		}
		wrong := -1
		want := goTree(n, &wrong).put(nil)
		l, at, e := bodyOf(s)
		switch {
		case len(want) > api.MaxNodes || e == api.ErrLimit:
			t.Fatalf("%q is too long", s)
		case wrong >= 0:
			if e != api.ErrSyntax || at != len(head)+wrong {
				t.Fatalf("Parse of %q: %d, error %d instead of %d", s, at-len(head), e, wrong)
			}
		case e != api.OK || !equal(file(api.Decl{Body: l}), file(api.Decl{Body: want})):
			t.Fatalf("Parse of %q: %v, error %d", s, l, e)
		default:
			right++
		}
	}
	if right < 5000 {
		t.Errorf("only %d expressions were right", right)
	}
}
