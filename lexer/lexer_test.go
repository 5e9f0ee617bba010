package lexer_test

import (
	"math/big"
	"regexp"
	"slices"
	"strings"
	"testing"

	"testgate/api"
	"testgate/lexer"
)

func name(s string, at int) api.Token { return api.Token{Kind: api.TokenName, Text: s, At: at} }

func number(n, at int) api.Token { return api.Token{Kind: api.TokenNumber, Number: n, At: at} }

func text(s string, at int) api.Token { return api.Token{Kind: api.TokenText, Text: s, At: at} }

func sign(s string, at int) api.Token { return api.Token{Kind: api.TokenSign, Text: s, At: at} }

func end(at int) api.Token { return api.Token{Kind: api.TokenEnd, At: at} }

func TestTokens(t *testing.T) {
	for s, want := range map[string][]api.Token{
		"":          {end(0)},
		" \t\r\n":   {end(4)},
		"a = 5; #x": {name("a", 0), sign("=", 2), number(5, 4), sign(";", 5), end(9)},
		"a==b":      {name("a", 0), sign("==", 1), name("b", 3), end(4)},
		"a= =b":     {name("a", 0), sign("=", 1), sign("=", 3), name("b", 4), end(5)},
		"=====":     {sign("==", 0), sign("==", 2), sign("=", 4), end(5)},
		"=#\n=":     {sign("=", 0), sign("=", 3), end(4)},
		"<==":       {sign("<", 0), sign("==", 1), end(3)},
		"-5":        {sign("-", 0), number(5, 1), end(2)},

		"z_9a z9__":            {name("z_9a", 0), name("z9__", 5), end(9)},
		"9a":                   {number(9, 0), name("a", 1), end(2)},
		"if x then flip":       {name("if", 0), name("x", 3), name("then", 5), name("flip", 10), end(14)},
		"a\tb\rc\nd":           {name("a", 0), name("b", 2), name("c", 4), name("d", 6), end(7)},
		"0 00 007 0123456789":  {number(0, 0), number(0, 2), number(7, 5), number(123456789, 9), end(19)},
		"a 1\"t\";":            {name("a", 0), number(1, 2), text("t", 3), sign(";", 6), end(7)},
		`"" "a/b.c" "# no"`:    {text("", 0), text("a/b.c", 3), text("# no", 11), end(17)},
		`"a""b"`:               {text("a", 0), text("b", 3), end(6)},
		`"\n\"`:                {text(`\n\`, 0), end(5)},
		"#":                    {end(1)},
		"##\n#\n":              {end(5)},
		"a#\"$ \x00\x80\rb\nc": {name("a", 0), name("c", 10), end(11)},
		"# \u00e9 \"":          {end(6)},
		"f(x,1)+g*-2/3%4<5;":   {name("f", 0), sign("(", 1), name("x", 2), sign(",", 3), number(1, 4), sign(")", 5), sign("+", 6), name("g", 7), sign("*", 8), sign("-", 9), number(2, 10), sign("/", 11), number(3, 12), sign("%", 13), number(4, 14), sign("<", 15), number(5, 16), sign(";", 17), end(18)},
	} {
		if l, at, e := lexer.Tokens(s); !slices.Equal(l, want) || at != 0 || e != api.OK {
			t.Errorf("Tokens of %q: %v, %d, error %d", s, l, at, e)
		}
	}
}

func TestTokenErrors(t *testing.T) {
	long := strings.Repeat("n", api.MaxName+1)
	for _, c := range []struct {
		s  string
		at int
		e  api.Errno
	}{
		{"$", 0, api.ErrSyntax}, {"a = $", 4, api.ErrSyntax}, {"aB", 1, api.ErrSyntax}, {"a.b", 1, api.ErrSyntax}, {"_", 0, api.ErrSyntax}, {"5_", 1, api.ErrSyntax}, {"a != b", 2, api.ErrSyntax}, {"a > b", 2, api.ErrSyntax}, {"# x\n'", 4, api.ErrSyntax},
		{"\"", 0, api.ErrSyntax}, {"a \"", 2, api.ErrSyntax}, {"\"a", 0, api.ErrSyntax}, {"\"a\n\"", 0, api.ErrSyntax}, {"\"a\"\"", 3, api.ErrSyntax}, {"\"a #\"\n\"b # c\n", 6, api.ErrSyntax}, {"\"\t\"", 0, api.ErrSyntax}, {"\"\u00e9\"", 0, api.ErrSyntax},
		{"\u00e9", 0, api.ErrSyntax}, {"\v", 0, api.ErrSyntax}, {"\f", 0, api.ErrSyntax}, {"\u00a0", 0, api.ErrSyntax}, {"a\u2028", 1, api.ErrSyntax}, {"\ufeffa", 0, api.ErrSyntax},
		{long, 0, api.ErrLimit}, {"\"" + long + "\" " + long, api.MaxName + 4, api.ErrLimit}, {long + "$", 0, api.ErrLimit}, {long + " 9007199254740993", 0, api.ErrLimit}, {"a " + long, 2, api.ErrLimit}, {long[1:] + "_", 0, api.ErrLimit}, {long[1:] + "9", 0, api.ErrLimit},
		{"9007199254740993", 0, api.ErrRange}, {"- 9007199254740993$", 2, api.ErrRange}, {"9007199254740993 " + long, 0, api.ErrRange}, {"00009007199254740993", 0, api.ErrRange},
		{"$ 9007199254740993", 0, api.ErrSyntax}, {"$ " + long, 0, api.ErrSyntax}, {"1 $ " + long, 2, api.ErrSyntax},
	} {
		if l, at, e := lexer.Tokens(c.s); len(l) != 0 || at != c.at || e != c.e {
			t.Errorf("Tokens of %q: %v, %d, error %d", c.s, l, at, e)
		}
	}
}

func TestLengthsOfFiles(t *testing.T) {
	for _, c := range []struct {
		begin, fill, last string
		at                int
		e                 api.Errno
	}{
		{"", " ", "", 0, api.OK}, {"", ";", "", 0, api.OK}, {"#", "x", "", 0, api.OK}, {"\"", "x", "\"", 0, api.OK}, {"", "0", "7", 0, api.OK},
		{"", "a", "", 0, api.ErrLimit}, {" ", "9", "", 1, api.ErrRange}, {"", " ", "$", api.MaxBytes - 1, api.ErrSyntax}, {"$", " ", "", 0, api.ErrSyntax}, {" \"", "x", "", 1, api.ErrSyntax},
	} {
		s := c.begin + strings.Repeat(c.fill, api.MaxBytes-len(c.begin)-len(c.last)) + c.last
		if l, at, e := lexer.Tokens(s); at != c.at || e != c.e || len(l) > 0 != (e == api.OK) {
			t.Errorf("Tokens of %d bytes %q: %d tokens, %d, error %d", len(s), c.begin+c.fill, len(l), at, e)
		}
		s = c.begin + c.fill + s[len(c.begin):]
		if l, at, e := lexer.Tokens(s); len(l) != 0 || at != 0 || e != api.ErrLimit {
			t.Errorf("Tokens of %d bytes %q: %d tokens, %d, error %d", len(s), c.begin+c.fill, len(l), at, e)
		}
	}
	if l, _, e := lexer.Tokens(strings.Repeat("=", api.MaxBytes)); len(l) != api.MaxBytes/2+1 || e != api.OK {
		t.Errorf("Tokens of %d bytes =: %d tokens, error %d", api.MaxBytes, len(l), e)
	}
	if l, at, e := lexer.Tokens(strings.Repeat("a ", 1<<20)); len(l) != 0 || at != 0 || e != api.ErrLimit {
		t.Errorf("Tokens of 2^21 bytes: %d tokens, %d, error %d", len(l), at, e)
	}
}

// TestGreatNumbers has numbers around MaxValue and around powers of 2 at which an int could begin again.
func TestGreatNumbers(t *testing.T) {
	most := big.NewInt(api.MaxValue)
	for shift := range uint(140) {
		for d := int64(-3); d <= 3; d++ {
			n := new(big.Int).Add(new(big.Int).Lsh(big.NewInt(1), shift), big.NewInt(d))
			if n.Sign() < 0 {
				continue
			}
			for _, zeros := range []int{0, 1, 30, 400} {
				s := " " + strings.Repeat("0", zeros) + n.String()
				want, wantAt, wantE := []api.Token{number(int(n.Int64()), 1), end(len(s))}, 0, api.OK
				if n.Cmp(most) > 0 {
					want, wantAt, wantE = nil, 1, api.ErrRange
				}
				if l, at, e := lexer.Tokens(s); !slices.Equal(l, want) || at != wantAt || e != wantE {
					t.Errorf("Tokens of %q: %v, %d, error %d", s, l, at, e)
				}
			}
		}
	}
}

// patterns returns the patterns of what may stand at a place, without limits, by the kinds of tokens; that of blanks and comments has the kind 0.
func patterns() [5]*regexp.Regexp {
	return [5]*regexp.Regexp{
		0:               regexp.MustCompile("^(?:[\t\n\r ]|#[^\n]*)+"),
		api.TokenName:   regexp.MustCompile("^[a-z][a-z0-9_]*"),
		api.TokenNumber: regexp.MustCompile("^[0-9]+"),
		api.TokenText:   regexp.MustCompile("^\"[ !#-~]*\""),
		api.TokenSign:   regexp.MustCompile("^(?:==|[;,()+*/%<=-])"),
	}
}

// tokensOf returns what Tokens has to return for a file of at most MaxBytes bytes.
func tokensOf(patterns [5]*regexp.Regexp, s string) (l []api.Token, at int, e api.Errno) {
	for at < len(s) {
		kind, found := 0, ""
		for k, p := range patterns {
			if m := p.FindString(s[at:]); m != "" {
				kind, found = k, m
			}
		}
		n, _ := new(big.Int).SetString(found, 10)
		switch {
		case found == "":
			return nil, at, api.ErrSyntax
		case kind == api.TokenName && len(found) > api.MaxName:
			return nil, at, api.ErrLimit
		case kind == api.TokenNumber && n.Cmp(big.NewInt(api.MaxValue)) > 0:
			return nil, at, api.ErrRange
		case kind == api.TokenNumber:
			l = append(l, number(int(n.Int64()), at))
		case kind == api.TokenText:
			l = append(l, text(found[1:len(found)-1], at))
		case kind != 0:
			l = append(l, api.Token{Kind: kind, Text: found, At: at})
		}
		at += len(found)
	}
	return append(l, end(len(s))), 0, api.OK
}

// compare checks what Tokens says of a file.
func compare(t *testing.T, patterns [5]*regexp.Regexp, s string) {
	t.Helper()
	l, at, e := lexer.Tokens(s)
	if want, wantAt, wantE := tokensOf(patterns, s); !slices.Equal(l, want) || at != wantAt || e != wantE {
		t.Errorf("Tokens of %q: %v, %d, error %d instead of %v, %d, error %d", s, l, at, e, want, wantAt, wantE)
	}
}

// TestEveryByte compares Tokens on every byte alone, in the places of blanks, in comments, and in and behind all kinds of tokens.
func TestEveryByte(t *testing.T) {
	patterns := patterns()
	for n := range 256 {
		c := string([]byte{byte(n)})
		for _, begin := range []string{"", "a", "5", "=", ";", " ", "\"", "\"x\"", "#", "# \"", "#\n"} {
			for _, last := range []string{"", "a", "5", "=", ";", "\"", "x\"", "\n\"y\"", c} {
				compare(t, patterns, begin+c+last)
			}
		}
	}
}

// TestShortFiles compares Tokens on all files of a few bytes.
func TestShortFiles(t *testing.T) {
	patterns, some := patterns(), "a5_= \n\"#+\xE9"
	files := []string{""}
	for range 5 {
		var longer []string
		for _, s := range files {
			for i := range len(some) {
				longer = append(longer, s+some[i:i+1])
			}
		}
		for _, s := range longer {
			compare(t, patterns, s)
		}
		files = longer
	}
}

// A dice gives numbers that are the same in every run of the tests.
type dice uint32

func (d *dice) below(n int) int {
	*d = *d*1664525 + 1013904223
	return int(*d>>8) % n
}

// word returns the text of some token.
func word(d *dice) string {
	words := []string{"a", "then", "x_1", "5", "007", "9007199254740992", `""`, `"a b"`, `"#"`, "=", "==", ";", ",", "(", ")", "+", "-", "*", "/", "%", "<", strings.Repeat("m", api.MaxName)}
	return words[d.below(len(words))]
}

// gap returns what may stand between two tokens, and is not empty.
func gap(d *dice) string {
	gaps := []string{" ", "\t", "\r", "\n", "  \n", "#\n", "# a = \"5\n", "\n\n# x\r\n\t"}
	return gaps[d.below(len(gaps))]
}

// TestLongFiles has tokens whose texts and offsets are known, with gaps between them.
func TestLongFiles(t *testing.T) {
	d := dice(4)
	for count := range 300 {
		s := ""
		var begins []int
		for range count {
			s += gap(&d)
			begins = append(begins, len(s))
			s += word(&d)
		}
		compare(t, patterns(), s)
		l, _, e := lexer.Tokens(s)
		if len(l) != count+1 || e != api.OK {
			t.Fatalf("Tokens of %d words: %d tokens, error %d", count, len(l), e)
		}
		for i, begin := range append(begins, len(s)) {
			if l[i].At != begin {
				t.Errorf("token %d of %q is at %d", i, s, l[i].At)
			}
		}
	}
}

// lengthOf returns the number of bytes that a token of a file has there.
func lengthOf(s string, t api.Token) int {
	switch t.Kind {
	case api.TokenNumber:
		return len(regexp.MustCompile("^[0-9]+").FindString(s[t.At:]))
	case api.TokenText:
		return len(t.Text) + 2
	}
	return len(t.Text)
}

// TestBlanks checks P4.4: tokens are in order, and blanks before and after any of them move the later ones only.
func TestBlanks(t *testing.T) {
	d := dice(44)
	for range 300 {
		s := ""
		for range 12 {
			s += word(&d)
			if d.below(3) == 0 {
				s += gap(&d)
			}
		}
		l, _, e := lexer.Tokens(s)
		if e != api.OK { // two words can be one number that is too great, or one name that is too long
			continue
		}
		after := 0
		for i, token := range l {
			if token.At < after {
				t.Fatalf("token %d of %q begins at %d, before %d", i, s, token.At, after)
			}
			for _, at := range []int{after, token.At} {
				blanks := strings.Repeat(" \t\r\n"[d.below(4):][:1], 1+d.below(3))
				want := slices.Clone(l)
				for j := i; j < len(want); j++ {
					want[j].At += len(blanks)
				}
				moved := s[:at] + blanks + s[at:]
				if got, _, e := lexer.Tokens(moved); !slices.Equal(got, want) || e != api.OK {
					t.Errorf("Tokens of %q: %v, error %d instead of %v", moved, got, e, want)
				}
			}
			after = token.At + lengthOf(s, token)
		}
	}
}

// TestTokensAreNew checks that two results share no memory.
func TestTokensAreNew(t *testing.T) {
	s := `f("a", 5) == x;`
	first, _, _ := lexer.Tokens(s)
	second, _, _ := lexer.Tokens(s)
	want := slices.Clone(second)
	clear(first[:cap(first)])
	if !slices.Equal(second, want) {
		t.Errorf("Tokens of %q shares memory with an earlier result", s)
	}
}
