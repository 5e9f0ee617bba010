package fact_test

import (
	"fmt"
	"math"
	"slices"
	"strings"
	"testing"

	"testgate/api"
	"testgate/fact"
)

// want checks the contents of all keys, with Content, Contents and Holds.
func want(t *testing.T, r api.Revision, env api.Environment, texts map[string]string) {
	t.Helper()
	var keys []api.Key
	var all []string
	for name, text := range texts {
		k := key(name)
		keys, all = append(keys, k), append(all, text)
		if got, e := fact.Content(r, env, k); got != text || e != api.OK {
			t.Errorf("Content of %s: %.300q, error %d, instead of %.300q", name, got, e, text)
		}
	}
	if got := contents(t, r, env, keys); !slices.Equal(got, all) {
		t.Errorf("Contents of %v: %.300q instead of %.300q", keys, got, all)
	}
	if at := holds(t, r, env, keys, all); at != -1 {
		t.Errorf("Holds of %v with %.300q is %d", keys, all, at)
	}
}

func TestKinds(t *testing.T) {
	const a, b, c = "package p; import s; import q; func f(x, y) = (x + (2*3)); # f\ntest t = 007; func am() = 1;", "package p; gen \"g/h\" = -0; test am = 1; test f = 2; func am() = 1;", "package q; import p; gen \"am\" = 1; gen \"a.dat\" = if (1) then 2 else 3; gen \"b/b.src\" = 1;"
	const broken, last = "package q; import z; func f() = 1; test t = 1; gen \"z\" = 1", "package r; import r2; gen \"am\" = 1;"
	r := of("a.src", a, "b/b.src", b, "c.src", c, "data", "package p; func only() = 1;", "e.src", broken, "f.src", last, "minus", "-", "nothing", "")
	env := api.Environment{Variables: []api.Variable{{Name: "big", Value: api.MaxValue}, {Name: "low", Value: -api.MaxValue}, {Name: "p", Value: 0}, {Name: "q", Value: -7}, {Name: "r", Value: 12}}}
	p, q := "="+packed("a.src", a, "b/b.src", b), "="+packed("c.src", c)
	tree := "=" + packed("p", p, "q", q, "s", "=")
	want(t, r, env, map[string]string{
		"func p f": "=package p;\nimport s;\nimport q;\nfunc f(x, y) = x + 2 * 3;\n", "func p am": "?", "func p t": "-", "func q f": "-", "func p only": "-", "func s f": "-",
		"test p t": "=package p;\nimport s;\nimport q;\ntest t = 7;\n", "test p am": "=package p;\ntest am = 1;\n", "test p f": "=package p;\ntest f = 2;\n", "test q t": "-", "test p none": "-",
		"gen g/h": "=package p;\ngen \"g/h\" = 0;\n", "gen am": "?", "gen a.dat": "=package q;\nimport p;\ngen \"a.dat\" = if 1 then 2 else 3;\n", "gen b/b.src": "=package q;\nimport p;\ngen \"b/b.src\" = 1;\n", "gen z": "-", "gen data": "-", "gen none": "-",
		"data a.src": "=" + a, "data b/b.src": "=" + b, "data e.src": "=" + broken, "data data": "=package p; func only() = 1;", "data minus": "=-", "data nothing": "=", "data g/h": "-", "data am": "-", "data b": "-", "data none": "-",
		"env big": "=9007199254740992", "env low": "=-9007199254740992", "env p": "=0", "env q": "=-7", "env r": "=12", "env s": "-", "env lo": "-",
		"files p": p, "files q": q, "files r": "=" + packed("f.src", last), "files s": "=", "files z": "=", "files only": "=",
		"tree p": tree, "tree q": tree, "tree s": "=" + packed("s", "="), "tree z": "=" + packed("z", "="), "tree r": "=" + packed("r", "="+packed("f.src", last), "r2", "="),
	})
	want(t, api.Revision{}, api.Environment{}, map[string]string{"func p f": "-", "test p f": "-", "gen p": "-", "data p": "-", "env p": "-", "files p": "=", "tree p": "=" + packed("p", "=")})
}

// TestRandomRevisions compares all functions with the drafts of random revisions: for one key alone, for some of them, and for all, which are more than there are files.
func TestRandomRevisions(t *testing.T) {
	d := dice(2)
	seen := map[string]int{}
	for range 80 {
		g := d.given()
		r, env, keys := g.revision(), g.environment(), allKeys()
		for i := range keys {
			k := d.roll(len(keys))
			keys[i], keys[k] = keys[k], keys[i]
		}
		texts := g.contents(keys)
		for i, k := range keys {
			text := texts[i]
			seen[fmt.Sprintf("kind %d, %.1s", k.Kind, text)]++
			if k.Kind == api.KeyTree && len(g.tree(k.A)) > 2 {
				seen["long tree"]++
			}
			check := unchanged(t, r, env, nil)
			if got, e := fact.Content(r, env, k); got != text || e != api.OK {
				t.Errorf("Content of %v at %q in %v: %q, error %d, instead of %q", k, r, env, got, e, text)
			}
			check()
		}
		for _, n := range []int{0, 2, len(r.Files), len(r.Files) + 1, len(keys)} {
			if got := contents(t, r, env, keys[:n]); !slices.Equal(got, texts[:n]) {
				t.Errorf("Contents of %v at %q in %v: %q instead of %q", keys[:n], r, env, got, texts[:n])
			}
			if at := holds(t, r, env, keys[:n], texts[:n]); at != -1 {
				t.Errorf("Holds of %v and %q at %q in %v is %d", keys[:n], texts[:n], r, env, at)
			}
		}
	}
	for _, kind := range []int{api.KeyFunc, api.KeyTest, api.KeyGen, api.KeyData, api.KeyEnv, api.KeyFiles, api.KeyTree} {
		for _, sign := range []string{"-", "=", "?"} {
			possible := sign == "=" || kind <= api.KeyGen || kind <= api.KeyEnv && sign == "-"
			if n := seen[fmt.Sprintf("kind %d, %s", kind, sign)]; (n > 0) != possible || possible && n < 100 {
				t.Errorf("%d contents of the kind %d begin with %s", n, kind, sign)
			}
		}
	}
	if seen["long tree"] < 100 {
		t.Errorf("only %d trees have more than two packages", seen["long tree"])
	}
}

// TestRepeatedKeys has keys several times, and in any order.
func TestRepeatedKeys(t *testing.T) {
	g := given{l: []draft{{path: "a.src", pkg: "p", imports: []string{"q"}, blank: " ", decls: []declared{{api.DeclFunc, "f", "x", "x"}}}, {path: "b.dat", bytes: "b"}, {path: "c.dat", bytes: "c"}, {path: "d.dat", bytes: "d"}}, vars: map[string]int{"os": 1}}
	r, env := g.revision(), g.environment()
	for _, name := range []string{"func p f", "func p g", "data b.dat", "env os", "files p", "tree p"} {
		for _, other := range []string{"tree q", "files p", "func p f", "data a.src"} {
			for n := range 7 {
				keys := append(slices.Repeat([]api.Key{key(name)}, n), key(other), key(name))
				texts := g.contents(keys)
				if got := contents(t, r, env, keys); !slices.Equal(got, texts) {
					t.Errorf("Contents of %v: %q instead of %q", keys, got, texts)
				}
				if at := holds(t, r, env, keys, texts); at != -1 {
					t.Errorf("Holds of %v and %q is %d", keys, texts, at)
				}
			}
		}
	}
}

// TestHolds changes some of the texts: the first changed one is told.
func TestHolds(t *testing.T) {
	d := dice(3)
	for range 20 {
		g := d.given()
		r, env, all := g.revision(), g.environment(), allKeys()
		right := g.contents(all)
		for _, n := range []int{1, min(5, len(r.Files)), len(all)} {
			for range 20 {
				begin := d.roll(len(all) - n + 1)
				keys, texts := all[begin:begin+n], slices.Clone(right[begin:begin+n])
				first := -1
				for i := n - 1; i >= 0; i-- {
					if d.roll(n) == 0 {
						texts[i], first = d.changedText(texts[i]), i
					}
				}
				if at := holds(t, r, env, keys, texts); at != first {
					t.Errorf("Holds of %v and %q at %q in %v is %d instead of %d", keys, texts, r, env, at, first)
				}
			}
		}
	}
	g := given{vars: map[string]int{"os": 1}}
	for _, text := range []string{"=1", "1", "=01", "=1 ", "=+1", "=1\x00", "", "-", "=", "?"} {
		at := holds(t, g.revision(), g.environment(), []api.Key{key("env os")}, []string{text})
		if (at == -1) != (text == "=1") || at > 0 {
			t.Errorf("Holds of env os with %q is %d", text, at)
		}
	}
}

// changedText returns another text, many of which differ only at an end.
func (d *dice) changedText(s string) string {
	l := []string{"", "-", "=", "?", s + " ", s + "\n", s + "\x00", s[1:], s[:len(s)-1], "=" + s, strings.ToUpper(s), strings.ToLower(s) + "x"}
	return d.pick(slices.DeleteFunc(l, func(other string) bool { return other == s }))
}

// TestLimits has files, trees, environments and declarations that are as great as possible.
func TestLimits(t *testing.T) {
	long := "package p;#" + strings.Repeat("x", api.MaxBytes-len("package p;#"))
	var files []string
	var r api.Revision
	for i := range api.MaxFiles {
		r.Files = append(r.Files, api.File{Path: fmt.Sprintf("f%02d.src", i), Bytes: long})
		files = append(files, r.Files[i].Path, long)
	}
	want(t, r, api.Environment{}, map[string]string{"files p": "=" + packed(files...), "tree p": "=" + packed("p", "="+packed(files...)), "data f63.src": "=" + long, "files q": "="})
	for _, n := range []int{0, 1, 127, 128, 129, 300, api.MaxBytes} {
		bytes := (long + long)[:max(n, len("package p;"))]
		bytes = bytes[:min(len(bytes), api.MaxBytes)]
		size := "=" + packed("a.src", bytes)
		want(t, of("a.src", bytes), api.Environment{}, map[string]string{"files p": size, "tree p": "=" + packed("p", size), "data a.src": "=" + bytes})
	}
	var env api.Environment
	texts := map[string]string{"env q": "-", "env v1": "-"}
	for i := range api.MaxEnv {
		v := api.Variable{Name: fmt.Sprintf("v%02d", i), Value: api.MaxValue - i*(api.MaxValue/8)}
		env.Variables = append(env.Variables, v)
		texts["env "+v.Name] = fmt.Sprintf("=%d", v.Value)
	}
	want(t, r, env, texts)
}

// TestGreatTree has a chain of packages, of which each file imports the next one and seven that have no files.
func TestGreatTree(t *testing.T) {
	var g given
	for i := range api.MaxFiles {
		d := draft{path: fmt.Sprintf("f%02d.src", i), pkg: fmt.Sprintf("p%d", (i+40)%api.MaxFiles), blank: " "}
		d.imports = append(d.imports, fmt.Sprintf("p%d", (i+41)%api.MaxFiles))
		for n := range api.MaxImports - 1 {
			d.imports = append(d.imports, fmt.Sprintf("none%dx%d", n, i))
		}
		g.l = append(g.l, d)
	}
	if n := len(g.tree("p5")); n != api.MaxFiles*api.MaxImports {
		t.Errorf("the tree has %d packages", n)
	}
	texts := map[string]string{}
	for _, name := range []string{"tree p0", "tree p5", "tree p63", "tree none3x7", "files p63", "tree p64"} {
		texts[name] = g.content(key(name))
	}
	want(t, g.revision(), api.Environment{}, texts)
	if texts["tree p5"] != texts["tree p63"] || len(texts["tree p64"]) != len("=\x03p64\x01=") {
		t.Errorf("other trees: %.300q", texts)
	}
}

// TestLongText has a declaration whose canonical text is longer than a file may be.
func TestLongText(t *testing.T) {
	path := strings.Repeat(strings.Repeat("a", 19)+"/", 3) + strings.Repeat("a", 18)
	chain := func(begin, end string) string {
		return strings.Repeat(begin, api.MaxNesting-1) + "0" + strings.Repeat(end, api.MaxNesting-1)
	}
	compact, canonical := chain("read(\""+path+"\",", ")"), chain("read(\""+path+"\", ", ")")
	text := "package p;func f()=" + strings.Repeat(compact+"+", 5) + compact + ";"
	want := "package p;\nfunc f() = " + strings.Repeat(canonical+" + ", 5) + canonical + ";\n"
	if len(text) > api.MaxBytes || len(want) <= api.MaxBytes {
		t.Errorf("%d bytes, and %d in canonical form", len(text), len(want))
	}
	for _, keys := range [][]api.Key{{key("func p f")}, {key("func p f"), key("func p f")}} {
		for _, got := range contents(t, of("a.src", text), api.Environment{}, keys) {
			if got != "="+want {
				t.Errorf("%d bytes: %.300q", len(got), got)
			}
		}
	}
}

// TestManyKeys has more keys than a record may have.
func TestManyKeys(t *testing.T) {
	g := given{l: []draft{{path: "a.src", pkg: "p", blank: " "}, {path: "b.src", pkg: "p", blank: "  "}}}
	for i := range api.MaxDecls {
		x := declared{kind: api.DeclFunc + i%3, name: fmt.Sprintf("d%d", i), body: fmt.Sprint(i)}
		g.l[0].decls = append(g.l[0].decls, x)
		if i%5 == 0 {
			g.l[1].decls = append(g.l[1].decls, x)
		}
	}
	var keys []api.Key
	for i := range 3 * api.MaxFacts {
		k := key(fmt.Sprintf("%s p d%d", []string{"func", "test"}[i%2], i/3%70))
		if i%3 == 0 {
			k = key(fmt.Sprintf("gen d%d", i/3%70))
		}
		keys = append(keys, k)
	}
	texts := g.contents(keys)
	if got := contents(t, g.revision(), g.environment(), keys); !slices.Equal(got, texts) {
		t.Errorf("Contents: %q instead of %q", got, texts)
	}
	texts[len(texts)-1] += "x"
	if at := holds(t, g.revision(), g.environment(), keys, texts); at != len(texts)-1 {
		t.Errorf("Holds is %d", at)
	}
}

// TestErrors has all errors of the arguments, alone and in lists.
func TestErrors(t *testing.T) {
	r, env := of("a.src", "package p; func f() = 1;", "b.dat", ""), api.Environment{Variables: []api.Variable{{Name: "a", Value: 1}, {Name: "b"}}}
	good := []api.Key{key("func p f"), key("data b.dat"), key("env a"), key("tree p"), key("files none")}
	var many api.Revision
	for i := range api.MaxFiles + 1 {
		many.Files = append(many.Files, api.File{Path: fmt.Sprintf("f%02d", i)})
	}
	for name, r := range map[string]api.Revision{"too many files": many, "a wrong path": of("a.src", "", "B", ""), "an empty path": of("", ""), "twice": of("a", "", "a", ""), "descending": of("b", "", "a", ""), "a long file": of("a.src", strings.Repeat("#", api.MaxBytes+1))} {
		for _, k := range good {
			wantInvalid(t, name, r, env, []api.Key{k})
		}
		wantInvalid(t, name, r, env, good)
	}
	variables := map[string][]api.Variable{
		"no name": {{Value: 1}}, "a wrong name": {{Name: "a"}, {Name: "b.c"}}, "twice": {{Name: "a"}, {Name: "a"}}, "descending": {{Name: "b"}, {Name: "a"}},
		"a great value": {{Name: "a", Value: api.MaxValue + 1}}, "a low value": {{Name: "a", Value: -api.MaxValue - 1}}, "the least value": {{Name: "a", Value: math.MinInt}},
		"too many": slices.Repeat([]api.Variable{{Name: "a"}}, api.MaxEnv+1),
	}
	for i := range variables["too many"] {
		variables["too many"][i].Name = fmt.Sprintf("v%02d", i)
	}
	for name, l := range variables {
		for _, k := range good {
			wantInvalid(t, name, r, api.Environment{Variables: l}, []api.Key{k})
		}
		wantInvalid(t, name, r, api.Environment{Variables: l}, good)
	}
	for _, k := range []api.Key{{}, {Kind: 8, A: "p"}, {Kind: -1, A: "p"}, {Kind: math.MaxInt, A: "p"}, key("func p"), key("func p 9"), {Kind: api.KeyTest, B: "t"}, {Kind: api.KeyGen}, key("gen A"), key("data a b"), key("data a//b"), key("env a b"), key("env a.b"), key("files p q"), key("files p/q"), key("tree p q"), {Kind: api.KeyTree}} {
		wantInvalid(t, "a wrong key", r, env, []api.Key{k})
		for i := range len(good) + 1 {
			wantInvalid(t, "a wrong key", r, env, slices.Insert(slices.Clone(good), i, k))
		}
	}
}

// wantInvalid checks that keys, of which at least one is not well-formed at a revision and in an environment, are ErrInvalid.
func wantInvalid(t *testing.T, name string, r api.Revision, env api.Environment, keys []api.Key) {
	t.Helper()
	if len(keys) == 1 {
		if s, e := fact.Content(r, env, keys[0]); s != "" || e != api.ErrInvalid {
			t.Errorf("%s: Content of %v is %q, error %d", name, keys[0], s, e)
		}
	}
	if l, e := fact.Contents(r, env, keys); len(l) != 0 || e != api.ErrInvalid {
		t.Errorf("%s: Contents of %v is %q, error %d", name, keys, l, e)
	}
	for _, texts := range [][]string{make([]string, len(keys)), slices.Repeat([]string{"-"}, len(keys))} {
		if i, e := fact.Holds(r, env, keys, texts); i != 0 || e != api.ErrInvalid {
			t.Errorf("%s: Holds of %v is %d, error %d", name, keys, i, e)
		}
	}
}

// TestLengths has lists of keys and texts with different lengths.
func TestLengths(t *testing.T) {
	keys, texts := []api.Key{key("env a"), key("data a"), key("func p f")}, []string{"-", "-", "-", "-"}
	for n := range len(keys) + 1 {
		for m := range len(texts) + 1 {
			wantAt, wantError := -1, api.OK
			if n != m {
				wantAt, wantError = 0, api.ErrInvalid
			}
			if i, e := fact.Holds(api.Revision{}, api.Environment{}, keys[:n], texts[:m]); i != wantAt || e != wantError {
				t.Errorf("Holds of %d keys and %d texts is %d, error %d", n, m, i, e)
			}
		}
	}
}

// TestNoKeys has no keys: then there is none for which Content is ErrInvalid.
func TestNoKeys(t *testing.T) {
	for _, r := range []api.Revision{{}, of("a.src", "package p;"), of("A", "")} {
		for _, env := range []api.Environment{{}, {Variables: []api.Variable{{Name: "A"}}}} {
			for _, keys := range [][]api.Key{nil, {}} {
				if l, e := fact.Contents(r, env, keys); len(l) != 0 || e != api.OK {
					t.Errorf("Contents of no keys at %q in %v: %q, error %d", r, env, l, e)
				}
				for _, texts := range [][]string{nil, {}} {
					if i, e := fact.Holds(r, env, keys, texts); i != -1 || e != api.OK {
						t.Errorf("Holds of no keys at %q in %v: %d, error %d", r, env, i, e)
					}
				}
			}
		}
	}
}

// TestResultsShareNothing checks that contents have memory of their own.
func TestResultsShareNothing(t *testing.T) {
	r := copyOf(of("a.src", "package p; import q; func f() = 1; test t = 1; gen \"g\" = 1;", "b.dat", "bytes", "q.src", "package q;"))
	env := api.Environment{Variables: []api.Variable{{Name: "os", Value: -123}}}
	names := []string{"func p f", "test p t", "gen g", "data a.src", "data b.dat", "env os", "files p", "tree p", "tree q"}
	var keys []api.Key
	var all []string
	for _, f := range r.Files {
		all = append(all, f.Path, f.Bytes)
	}
	for _, name := range append(names, names...) {
		keys = append(keys, key(name))
		s, _ := fact.Content(r, env, key(name))
		all = append(all, s)
	}
	all = append(all, contents(t, r, env, keys)...)
	for i, s := range all {
		for k, other := range all[:i] {
			if overlap(s, other) {
				t.Errorf("number %d, %q, shares memory with number %d, %q", i, s, k, other)
			}
		}
	}
}
