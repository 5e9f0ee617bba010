package mention_test

import (
	"fmt"
	"math"
	"strings"
	"testing"
	"unsafe"

	"testgate/api"
	"testgate/mention"
	"testgate/source"
)

// wantText checks the canonical text of a declaration, and that the file is not changed.
func wantText(t *testing.T, name string, f api.Source, i int, want string, e api.Errno) {
	t.Helper()
	before := copyOf(f)
	if s, got := mention.Text(f, i); s != want || got != e {
		t.Errorf("Text of declaration %d of %s: %.300q, error %d instead of %.300q, error %d", i, name, s, got, want, e)
	}
	if !equal(f, before) {
		t.Errorf("Text changed %s", name)
	}
}

func TestText(t *testing.T) {
	f := parse(t, `package p; import q; test t = f(read("a.dat", 0));`)
	wantText(t, "the example", f, 0, "package p;\nimport q;\ntest t = f(read(\"a.dat\", 0));\n", api.OK)
	s := "# p\npackage p;import z;\timport a;func f(a,b)=(a)+(b*02);test f=f((1),2)-(3-4);gen \"a/f\"=if((1))then-0 else(2);func g()=((9));func h(x)=x;"
	for i, want := range []string{"func f(a, b) = a + b * 2;\n", "test f = f(1, 2) - (3 - 4);\n", "gen \"a/f\" = if 1 then 0 else 2;\n", "func g() = 9;\n", "func h(x) = x;\n"} {
		wantText(t, s, parse(t, s), i, "package p;\nimport z;\nimport a;\n"+want, api.OK)
	}
	empty := []api.Decl{{Kind: api.DeclTest, Name: "t", Params: []string{}, Body: []api.Expr{{Kind: api.ExprNumber, Number: 10, Args: []int{}}}}}
	wantText(t, "a file with empty lists", api.Source{Package: "p", Imports: []string{}, Decls: empty}, 0, "package p;\ntest t = 10;\n", api.OK)
}

// TestTextOfFormat compares with Format of a file with one declaration.
func TestTextOfFormat(t *testing.T) {
	d := dice(3)
	for range 2000 {
		f := parse(t, d.text())
		for i := range f.Decls {
			want, e := source.Format(alone(f, i))
			if e != api.OK {
				t.Fatalf("Format: error %d", e)
			}
			wantText(t, "a random file", f, i, want, api.OK)
		}
	}
}

func TestTextErrors(t *testing.T) {
	f := parse(t, "package p; import q; test t = 1; test u = 2;")
	for _, i := range []int{-1, 2, 3, math.MaxInt, math.MinInt} {
		wantText(t, "two tests", f, i, "", api.ErrRange)
	}
	wantText(t, "no declaration", api.Source{Package: "p"}, 0, "", api.ErrRange)
	one := []api.Expr{{Kind: api.ExprNumber, Number: 1}}
	long := make([]api.Expr, api.MaxNodes+1)
	for i := range long {
		long[i] = api.Expr{Kind: api.ExprCall, Name: "f", Args: []int{i - 1}}
	}
	long[0].Args = nil
	decls := func(l ...api.Decl) api.Source { return api.Source{Package: "p", Decls: l} }
	right := api.Decl{Kind: api.DeclTest, Name: "t", Body: one}
	for name, c := range map[string]struct {
		f api.Source
		e api.Errno
	}{
		"nothing": {api.Source{}, api.ErrSyntax}, "a reserved package": {api.Source{Package: "if", Decls: []api.Decl{right}}, api.ErrSyntax},
		"no body behind it": {decls(right, api.Decl{Kind: api.DeclTest, Name: "u"}), api.ErrSyntax}, "no kind": {decls(api.Decl{Name: "t", Body: one}), api.ErrSyntax},
		"a test with parameters": {decls(api.Decl{Kind: api.DeclTest, Name: "t", Params: []string{"a"}, Body: one}), api.ErrSyntax},
		"an import twice":        {api.Source{Package: "p", Imports: []string{"q", "q"}, Decls: []api.Decl{right}}, api.ErrTwice},
		"its own import":         {api.Source{Package: "p", Imports: []string{"p"}, Decls: []api.Decl{right}}, api.ErrTwice},
		"a test twice":           {decls(right, right), api.ErrTwice},
		"too many nodes":         {decls(right, api.Decl{Kind: api.DeclTest, Name: "u", Body: long}), api.ErrLimit},
		"too many imports":       {api.Source{Package: "p", Imports: strings.Fields("a b c d e f g h i"), Decls: []api.Decl{right}}, api.ErrLimit},
	} {
		if e := source.Check(c.f); e != c.e {
			t.Errorf("Check of %s: error %d instead of %d", name, e, c.e)
		}
		for _, i := range []int{0, 1, len(c.f.Decls), -1} {
			wantText(t, name, c.f, i, "", c.e)
		}
	}
}

// sums returns a file that subtracts so many numbers, the last two first, and its text.
func sums(n int) (api.Source, string) {
	var l []api.Expr
	for range n {
		l = append(l, api.Expr{Kind: api.ExprNumber, Number: 1})
	}
	for i := n - 1; i > 0; i-- {
		l = append(l, api.Expr{Kind: api.ExprBinary, Op: api.OpSub, Args: []int{i - 1, len(l) - 1}})
	}
	text := "1"
	if n > 1 {
		text = strings.Repeat("1 - (", n-2) + "1 - 1" + strings.Repeat(")", n-2)
	}
	return api.Source{Package: "p", Decls: []api.Decl{{Kind: api.DeclTest, Name: "t", Body: l}}}, "package p;\ntest t = " + text + ";\n"
}

// TestTextIsNotLimited gives files that Format refuses, since their texts have too many parentheses or bytes.
func TestTextIsNotLimited(t *testing.T) {
	for n := 1; n <= api.MaxNodes/2; n++ {
		f, want := sums(n)
		wantText(t, fmt.Sprint(n, " numbers"), f, 0, want, api.OK)
		// All operators but one are in parentheses, and the body is one deep without any.
		e := api.OK
		if n-1 > api.MaxNesting {
			e = api.ErrLimit
		}
		if _, got := source.Format(f); got != e {
			t.Errorf("Format of %d numbers: error %d instead of %d", n, got, e)
		}
		if g, got := mention.Read(want); got != e || e == api.OK && !equal(f, g) || e != api.OK && !equal(g, api.Source{}) {
			t.Errorf("Read of %d numbers: error %d instead of %d", n, got, e)
		}
	}
	path := strings.Repeat("abcdefghijk/", 6) + "abcdefgh"
	for n, over := range map[int]bool{1: false, 181: false, 182: true, 250: true} {
		args := strings.Repeat(", size(\""+path+"\")", n)[2:]
		s := "package p;\nimport q;\nfunc f(a) = g(" + args + ");\n"
		f := api.Source{Package: "p", Imports: []string{"q"}}
		d := api.Decl{Kind: api.DeclFunc, Name: "f", Params: []string{"a"}}
		var l []int
		for i := range n {
			d.Body = append(d.Body, api.Expr{Kind: api.ExprSize, Name: path})
			l = append(l, i)
		}
		d.Body = append(d.Body, api.Expr{Kind: api.ExprCall, Name: "g", Args: l})
		f.Decls = []api.Decl{d}
		if _, e := source.Format(f); (e == api.ErrLimit) != over || (len(s) > api.MaxBytes) != over {
			t.Errorf("Format of %d bytes: error %d", len(s), e)
		}
		wantText(t, fmt.Sprint(n, " paths"), f, 0, s, api.OK)
	}
}

// TestTextOfManyBytes gives a file that has too many bytes only with all of its declarations, and files whose texts have as many bytes as a file may have, one less and one more.
func TestTextOfManyBytes(t *testing.T) {
	f := api.Source{Package: "p"}
	for i := range api.MaxDecls {
		d := api.Decl{Kind: api.DeclTest, Name: fmt.Sprint("t", i)}
		var l []int
		for k := range api.MaxNodes - 1 {
			d.Body = append(d.Body, api.Expr{Kind: api.ExprNumber, Number: api.MaxValue})
			l = append(l, k)
		}
		d.Body = append(d.Body, api.Expr{Kind: api.ExprCall, Name: "f", Args: l})
		f.Decls = append(f.Decls, d)
	}
	if _, e := source.Format(f); e != api.ErrLimit {
		t.Errorf("Format: error %d", e)
	}
	args := strings.Repeat(", 9007199254740992", api.MaxNodes-1)[2:]
	for i := range f.Decls {
		want := fmt.Sprintf("package p;\ntest t%d = f(%s);\n", i, args)
		wantText(t, "a long file", f, i, want, api.OK)
		if g, e := mention.Read(want); e != api.OK || !equal(g, alone(f, i)) {
			t.Errorf("Read of declaration %d: error %d", i, e)
		}
	}
	for over := range 3 {
		f := longest(api.MaxBytes - 1 + over)
		s, e := mention.Text(f, 0)
		if e != api.OK || len(s) != api.MaxBytes-1+over {
			t.Fatalf("Text: %d bytes, error %d", len(s), e)
		}
		want := api.OK
		if over == 2 {
			want = api.ErrLimit
		}
		if g, e := mention.Read(s); e != want || (e == api.OK) != equal(f, g) {
			t.Errorf("Read of %d bytes: error %d instead of %d", len(s), e, want)
		}
	}
}

// longest returns a file whose canonical text has so many bytes: the paths of 200 operands share what the other words leave.
func longest(bytes int) api.Source {
	const parts = 200
	rest := bytes - len("package p;\ntest t = g();\n") - parts*len(`size("")`) - (parts-1)*len(", ")
	d := api.Decl{Kind: api.DeclTest, Name: "t"}
	var l []int
	for i := range parts {
		size := (rest + i) / parts
		path := strings.Repeat("abcdefghijk/", 6)[:size-8] + "abcdefgh"
		d.Body = append(d.Body, api.Expr{Kind: api.ExprSize, Name: path})
		l = append(l, i)
	}
	d.Body = append(d.Body, api.Expr{Kind: api.ExprCall, Name: "g", Args: l})
	return api.Source{Package: "p", Decls: []api.Decl{d}}
}

// wantRead checks Read of a text against what Parse and Format say of it.
func wantRead(t *testing.T, s string) api.Errno {
	t.Helper()
	want, _, e := source.Parse(s)
	if e == api.OK && len(want.Decls) != 1 {
		want, e = api.Source{}, api.ErrText
	}
	if e == api.OK {
		// Format of a text that is too long once it has all blanks is an error, and not s.
		if text, _ := source.Format(want); text != s {
			want, e = api.Source{}, api.ErrText
		}
	}
	if f, got := mention.Read(s); got != e || !equal(f, want) {
		t.Errorf("Read of %q: %v, error %d instead of %v, error %d", s, f, got, want, e)
	}
	return e
}

func TestRead(t *testing.T) {
	for s, e := range map[string]api.Errno{
		"package p;\ntest t = 1;\n": api.OK, "package p;\nfunc f() = 1;\n": api.OK, "package p;\nfunc f(a, b) = f(b, a);\n": api.OK, "package p;\ngen \"a/b\" = -1;\n": api.OK,
		"package p;\nimport q;\nimport a;\ntest t = 1;\n": api.OK,
		"package p;\n": api.ErrText, "package p;\nimport q;\n": api.ErrText, "package p;": api.ErrText,
		"package p;\ntest t = 1;\ntest u = 1;\n": api.ErrText, "package p;\ntest t = 1;\nfunc t() = 1;\n": api.ErrText,
		"package p;\ntest t = 1;": api.ErrText, "package p; test t = 1;\n": api.ErrText, "package p;\ntest t = 1;\n\n": api.ErrText, "\npackage p;\ntest t = 1;\n": api.ErrText, "package p;\r\ntest t = 1;\r\n": api.ErrText,
		"package p;\ntest t = 1; # one\n": api.ErrText, "# p\npackage p;\ntest t = 1;\n": api.ErrText, "package p;\ntest t = 1;\n#": api.ErrText,
		"package p;\ntest t = (1);\n": api.ErrText, "package p;\ntest t = 1+1;\n": api.ErrText, "package p;\ntest t = 1 + (1 * 2);\n": api.ErrText, "package p;\ntest t = (1 + 1) * 2;\n": api.OK,
		"package p;\ntest t = 01;\n": api.ErrText, "package p;\ntest t = -0;\n": api.ErrText, "package p;\ntest t = 0;\n": api.OK, "package p;\ntest t = - 1;\n": api.ErrText,
		"package p;\nfunc f(a,b) = 1;\n": api.ErrText, "package p;\nfunc f( ) = 1;\n": api.ErrText, "package p;\ntest t=1;\n": api.ErrText,
		"": api.ErrSyntax, "package p;\ntest t = x;\n": api.ErrSyntax, "package p;\ntest t = 1;\n;": api.ErrSyntax, "package p;\ntest t = 1;\n\x00": api.ErrSyntax,
		"package p;\nimport q;\nimport q;\ntest t = 1;\n": api.ErrTwice, "package p;\ntest t = 1;\ntest t = 1;\n": api.ErrTwice, "package p;\nfunc f(a, a) = 1;\n": api.ErrTwice,
		"package p;\ntest t = 1;\n" + strings.Repeat("\n", api.MaxBytes): api.ErrLimit, "package p;\ntest t = " + strings.Repeat("(", api.MaxNesting) + "1" + strings.Repeat(")", api.MaxNesting) + ";\n": api.ErrLimit, "package p;\ntest t = " + strings.Repeat("(", api.MaxNesting-1) + "1" + strings.Repeat(")", api.MaxNesting-1) + ";\n": api.ErrText,
		"package p;\ntest t = 1" + strings.Repeat("+1", api.MaxNodes/2-1) + ";\n": api.ErrText, "package p;\ntest t = 1" + strings.Repeat(" + 1", api.MaxNodes/2-1) + ";\n": api.OK,
		// With all blanks this text would be longer than a file may be.
		"package p;\ntest t = f(" + strings.Repeat(`has("abcdefghijkl/abcdefghijkl/abcdefghijkl/abcdefghijk"),`, 255)[:255*58-1] + ");\n" + strings.Repeat(" ", 1400): api.ErrText,
	} {
		if got := wantRead(t, s); got != e {
			t.Errorf("%.200q: error %d instead of %d", s, got, e)
		}
	}
}

// TestReadOfText reads the texts of random declarations, and the files that they are from.
func TestReadOfText(t *testing.T) {
	d := dice(4)
	for range 2000 {
		text := d.text()
		f := parse(t, text)
		for i := range f.Decls {
			s, e := mention.Text(f, i)
			if e != api.OK {
				t.Fatalf("Text: error %d", e)
			}
			g, e := mention.Read(s)
			if e != api.OK || !equal(g, alone(f, i)) || !source.Same(g, alone(f, i)) {
				t.Errorf("Read of %q: %v, error %d", s, g, e)
			}
			if again, e := mention.Text(g, 0); again != s || e != api.OK {
				t.Errorf("Text of what Read of %q returned: %q, error %d", s, again, e)
			}
		}
		wantRead(t, text)
		s, _ := source.Format(f)
		wantRead(t, s)
	}
}

// TestReadOfChanges changes every byte of some canonical texts.
func TestReadOfChanges(t *testing.T) {
	seen := map[api.Errno]int{}
	for _, s := range []string{"package p;\ntest t = 1;\n", "package p;\nimport q;\nimport r;\nfunc f(a, b) = if a < b then (a - b) * -10 else g(read(\"a\", 0));\n", "package p;\ngen \"a.b\" = flip(10) + size(\"a\") + has(\"b\") + env(\"v\");\n"} {
		for at := 0; at <= len(s); at++ {
			for _, part := range []string{"", " ", "\n", "(", ")", "0", "1", "a", "b", ";", "#", "#\n", "\"", ",", "-", "=", "+", "test u = 1;\n", "import s;\n"} {
				seen[wantRead(t, s[:at]+part+s[at:])]++
				if at < len(s) {
					seen[wantRead(t, s[:at]+part+s[at+1:])]++
				}
			}
			seen[wantRead(t, s[:at])]++
			for end := at; end <= len(s); end++ {
				seen[wantRead(t, s[:at]+"("+s[at:end]+")"+s[end:])]++
			}
		}
	}
	for _, e := range []api.Errno{api.OK, api.ErrText, api.ErrSyntax, api.ErrTwice} {
		if seen[e] == 0 {
			t.Errorf("no text has the error %d", e)
		}
	}
}

// TestTextIsCanonical compares all pairs of declarations in all files of a few parts.
func TestTextIsCanonical(t *testing.T) {
	var files []api.Source
	var texts []string
	for _, pack := range []string{"p", "q"} {
		for _, imports := range []string{"", "import r;", "import s;", "import r;import s;", "import s; import r;"} {
			for _, decl := range []string{
				"test t = 1;", "test t = ((1));", "test # t\n t = 01 ;", "test t = 2;", "test u = 1;", "func t() = 1;", "gen \"t\" = 1;", "func t(a) = 1;", "func t(b) = 1;", "func t(a, b) = a;", "func t(b, a) = a;", "func t(b, a) = b;",
				"test t = 1 - 2 - 3;", "test t = (1 - 2) - 3;", "test t = 1 - (2 - 3);", "test t = 0;", "test t = -0;", "test t = f();", "test t = f(f());", "test t = has(\"f\");", "test t = size(\"f\");", "test t = if 1 then 2 else 3;", "test t = (if 1 then (2) else 3);",
			} {
				for _, other := range []string{"%s", "%s test z = 5;", "func z() = 5; %s", "gen \"z\" = 5; # z\n%s # z"} {
					f := parse(t, "package "+pack+";"+imports+fmt.Sprintf(other, decl))
					for i, n := range f.Decls {
						if n.Name == "z" {
							continue
						}
						s, e := mention.Text(f, i)
						if e != api.OK {
							t.Fatalf("Text: error %d", e)
						}
						files, texts = append(files, alone(f, i)), append(texts, s)
					}
				}
			}
		}
	}
	same := 0
	for i, a := range files {
		for k, b := range files {
			if (texts[i] == texts[k]) != equal(a, b) {
				t.Errorf("texts %q and %q", texts[i], texts[k])
			}
			if texts[i] == texts[k] {
				same++
			}
		}
	}
	// In each of ten kinds of files, each declaration is written four times; one is in three of the texts, three are in two, and 14 in one.
	if want := 10 * (12*12 + 3*8*8 + 14*4*4); same != want {
		t.Errorf("%d pairs instead of %d are the same", same, want)
	}
}

// TestTextsAreNew looks whether what Read returns is a part of its text.
func TestTextsAreNew(t *testing.T) {
	text := "package pack;\nimport name;\nfunc f(parameter) = g(size(\"path\"));\n"
	f, e := mention.Read(text)
	if e != api.OK {
		t.Fatalf("Read: error %d", e)
	}
	s, _ := mention.Text(f, 0)
	begin := uintptr(unsafe.Pointer(unsafe.StringData(text)))
	for _, part := range []string{s, f.Package, f.Imports[0], f.Decls[0].Name, f.Decls[0].Params[0], f.Decls[0].Body[0].Name, f.Decls[0].Body[1].Name} {
		if at := uintptr(unsafe.Pointer(unsafe.StringData(part))); at >= begin && at < begin+uintptr(len(text)) {
			t.Errorf("%q is a part of the text", part)
		}
	}
}
