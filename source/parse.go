package source

import (
	"slices"

	"testgate/api"
	"testgate/lexer"
)

// mistake is the panic by which the parser ends at an error.
type mistake struct {
	at int
	e  api.Errno
}

// parser reads the tokens of a file from left to right.
type parser struct {
	rest   []api.Token // the tokens that were not read yet; the end of the file stays
	params []string    // of the declaration
	body   []api.Expr  // the nodes of the declaration that have ended
}

// Parse returns the source that a text stands for, or the offset of its first mistake.
func Parse(s string) (f api.Source, at int, e api.Errno) {
	tokens, at, e := lexer.Tokens(s)
	if e != api.OK {
		return api.Source{}, at, e
	}
	defer func() {
		if m, ok := recover().(mistake); ok {
			f, at, e = api.Source{}, m.at, m.e
		}
	}()
	p := parser{rest: tokens}
	return p.file(), 0, api.OK
}

// fail ends the parser with an error at a token.
func fail(t api.Token, e api.Errno) {
	panic(mistake{t.At, e})
}

// room ends the parser at a token if there is no room for one more than n.
func room(t api.Token, n, most int) {
	if n >= most {
		fail(t, api.ErrLimit)
	}
}

func (p *parser) file() api.Source {
	p.expect("package")
	f := api.Source{Package: p.name().Text}
	p.expect(";")
	for p.is("import") {
		f.Imports = append(f.Imports, p.imported(f))
	}
	for p.rest[0].Kind != api.TokenEnd {
		f.Decls = append(f.Decls, p.decl(f.Decls))
	}
	return f
}

// imported reads an import of a file whose earlier ones are known.
func (p *parser) imported(f api.Source) string {
	room(p.rest[0], len(f.Imports), api.MaxImports)
	p.expect("import")
	t := p.name()
	if t.Text == f.Package || slices.Contains(f.Imports, t.Text) {
		fail(t, api.ErrTwice)
	}
	p.expect(";")
	return t.Text
}

// decl reads a declaration of a file whose earlier ones are known.
func (p *parser) decl(earlier []api.Decl) api.Decl {
	first := p.rest[0]
	d := api.Decl{Kind: p.kind()}
	room(first, len(earlier), api.MaxDecls)
	d.Name = p.declared(d.Kind, earlier)
	p.params, p.body = nil, nil
	if d.Kind == api.DeclFunc {
		p.list(p.parameter)
	}
	p.expect("=")
	p.expr(1)
	p.expect(";")
	d.Params, d.Body = p.params, p.body
	return d
}

// kind reads the word that a declaration begins with.
func (p *parser) kind() int {
	switch {
	case p.accept("func"):
		return api.DeclFunc
	case p.accept("test"):
		return api.DeclTest
	}
	p.expect("gen")
	return api.DeclGen
}

// declared reads the name or path of a declaration.
func (p *parser) declared(kind int, earlier []api.Decl) string {
	var t api.Token
	if kind == api.DeclGen {
		t = p.text(lexer.Path)
	} else {
		t = p.name()
	}
	if slices.ContainsFunc(earlier, func(d api.Decl) bool { return d.Kind == kind && d.Name == t.Text }) {
		fail(t, api.ErrTwice)
	}
	return t.Text
}

func (p *parser) parameter() {
	t := p.name()
	room(t, len(p.params), api.MaxParams)
	if slices.Contains(p.params, t.Text) {
		fail(t, api.ErrTwice)
	}
	p.params = append(p.params, t.Text)
}

// expr reads an expression and returns its node. Whether it is too deep is asked first, so that the parser's own calls are not nested without a bound.
func (p *parser) expr(depth int) int {
	first := p.rest[0]
	room(first, depth-1, api.MaxNesting)
	if !p.accept("if") {
		return p.operation(levelCompare, depth)
	}
	condition := p.expr(depth + 1)
	p.expect("then")
	yes := p.expr(depth + 1)
	p.expect("else")
	no := p.expr(depth + 1)
	return p.node(first, api.Expr{Kind: api.ExprIf, Args: []int{condition, yes, no}})
}

// operation reads an expression of at least a level, from compare on.
func (p *parser) operation(level, depth int) int {
	if level == levelFactor {
		return p.factor(depth)
	}
	left := p.operation(level+1, depth)
	for {
		first := p.rest[0]
		op := p.operator(level)
		if op == 0 {
			return left
		}
		right := p.operation(level+1, depth)
		left = p.node(first, api.Expr{Kind: api.ExprBinary, Op: op, Args: []int{left, right}})
		if level == levelCompare {
			return left
		}
	}
}

// operator reads an operator of a level, and returns 0 if there is none.
func (p *parser) operator(level int) int {
	for op := api.OpAdd; op <= api.OpEqual; op++ {
		if operators[op].level == level && p.accept(operators[op].sign) {
			return op
		}
	}
	return 0
}

func (p *parser) factor(depth int) int {
	first := p.rest[0]
	switch {
	case first.Kind == api.TokenNumber:
		return p.node(first, api.Expr{Kind: api.ExprNumber, Number: p.take(api.TokenNumber).Number})
	case p.accept("-"):
		return p.node(first, api.Expr{Kind: api.ExprNumber, Number: -p.take(api.TokenNumber).Number})
	case p.accept("("):
		inner := p.expr(depth + 1)
		p.expect(")")
		return inner
	case p.accept("read"):
		return p.node(first, p.read(depth))
	case p.accept("size"):
		return p.node(first, p.named(api.ExprSize, lexer.Path))
	case p.accept("has"):
		return p.node(first, p.named(api.ExprHas, lexer.Path))
	case p.accept("env"):
		return p.node(first, p.named(api.ExprEnv, lexer.Name))
	case p.accept("flip"):
		return p.node(first, p.flip())
	}
	return p.use(depth)
}

// use reads a parameter or a call.
func (p *parser) use(depth int) int {
	t := p.name()
	if p.is("(") {
		n := api.Expr{Kind: api.ExprCall, Name: t.Text}
		p.list(func() { n.Args = append(n.Args, p.expr(depth+1)) })
		return p.node(t, n)
	}
	index := slices.Index(p.params, t.Text)
	if index < 0 {
		fail(t, api.ErrSyntax)
	}
	return p.node(t, api.Expr{Kind: api.ExprParam, Number: index})
}

// read reads what follows the word read.
func (p *parser) read(depth int) api.Expr {
	p.expect("(")
	n := api.Expr{Kind: api.ExprRead, Name: p.text(lexer.Path).Text}
	p.expect(",")
	n.Args = []int{p.expr(depth + 1)}
	p.expect(")")
	return n
}

// named reads what follows a word that takes a string alone.
func (p *parser) named(kind int, fits func(s string) bool) api.Expr {
	p.expect("(")
	n := api.Expr{Kind: kind, Name: p.text(fits).Text}
	p.expect(")")
	return n
}

// flip reads what follows the word flip.
func (p *parser) flip() api.Expr {
	p.expect("(")
	t := p.take(api.TokenNumber)
	if t.Number >= api.MaxFlips {
		fail(t, api.ErrSyntax)
	}
	p.expect(")")
	return api.Expr{Kind: api.ExprFlip, Number: t.Number}
}

// node adds a node that has ended, and returns its index.
func (p *parser) node(first api.Token, n api.Expr) int {
	room(first, len(p.body), api.MaxNodes)
	p.body = append(p.body, n)
	return len(p.body) - 1
}

// list reads items in parentheses, with commas between them.
func (p *parser) list(item func()) {
	p.expect("(")
	if p.accept(")") {
		return
	}
	item()
	for !p.accept(")") {
		p.expect(",")
		item()
	}
}

// name reads a name that is not reserved.
func (p *parser) name() api.Token {
	t := p.take(api.TokenName)
	if reserved(t.Text) {
		fail(t, api.ErrSyntax)
	}
	return t
}

// text reads a string that fits.
func (p *parser) text(fits func(s string) bool) api.Token {
	t := p.take(api.TokenText)
	if !fits(t.Text) {
		fail(t, api.ErrSyntax)
	}
	return t
}

// take reads a token of a kind.
func (p *parser) take(kind int) api.Token {
	t := p.rest[0]
	if t.Kind != kind {
		fail(t, api.ErrSyntax)
	}
	p.rest = p.rest[1:]
	return t
}

// is tells whether the next token is a word or sign: a string with the same bytes is none.
func (p *parser) is(s string) bool {
	t := p.rest[0]
	return t.Kind != api.TokenText && t.Text == s
}

// accept reads a word or sign if it is the next token.
func (p *parser) accept(s string) bool {
	if !p.is(s) {
		return false
	}
	p.rest = p.rest[1:]
	return true
}

// expect reads a word or sign that the grammar asks for.
func (p *parser) expect(s string) {
	if !p.accept(s) {
		fail(p.rest[0], api.ErrSyntax)
	}
}
