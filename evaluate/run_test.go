package evaluate_test

import (
	"fmt"
	"math"
	"slices"
	"strings"
	"testing"

	"testgate/api"
	"testgate/evaluate"
)

// bad returns a revision for each error of revision.Check; without the mistake, it would have the function f and the test t of the package p.
func bad() map[string]api.Revision {
	text := "package p; func f() = 1; test t = 1;"
	good := of("a.src", text)
	most := slices.Clone(good.Files)
	for i := range api.MaxFiles {
		most = append(most, api.File{Path: fmt.Sprintf("b%02d", i)})
	}
	long := strings.Repeat("x", api.MaxBytes+1)
	return map[string]api.Revision{
		"too many files": {Files: most}, "no path": of("", "", "a.src", text), "a wrong path": of("a.src", text, "b c", ""), "twice": of("a.src", text, "b", "", "b", ""), "descending": of("a.src", text, "c", "", "b", ""), "too many bytes": of("a.src", text, "b", long), "too many bytes of the file": of("a.src", text+"#"+long),
	}
}

// badEnvironments returns environments that are not well-formed.
func badEnvironments() map[string]api.Environment {
	return map[string]api.Environment{
		"too many variables": {Variables: many(api.MaxEnv + 1)}, "a wrong name": {Variables: []api.Variable{{Name: "A"}}}, "no name": {Variables: make([]api.Variable, 1)}, "twice": {Variables: []api.Variable{{Name: "a"}, {Name: "a"}}}, "descending": {Variables: []api.Variable{{Name: "b"}, {Name: "a"}}}, "a great value": {Variables: []api.Variable{{Name: "a", Value: api.MaxValue + 1}}}, "a small value": {Variables: []api.Variable{{Name: "a", Value: -api.MaxValue - 1}}},
	}
}

// oneOf returns a revision in which f and t are declared once, and others in other ways.
func oneOf() api.Revision {
	return of("a.src", "package p; func f() = 1; func g(x, y) = x - y; test t = 1; gen \"gen\" = 1; func two() = 1; test twice = 1;", "b.src", "package p; func two() = 2; test twice = 1;", "c.src", "package q; func far() = 1; test far = 1; test two = 5; func twice() = 6;", "d.src", "package p; func lost() = 1; test lost = 1; $", "data", "package p; func data() = 1; test data = 1;")
}

func TestRunErrors(t *testing.T) {
	nothing := func(what string, a answer, e api.Errno) {
		t.Helper()
		if !a.same(answer{e: e}) {
			t.Errorf("%s: %v", what, a)
		}
	}
	for what, r := range bad() {
		for _, name := range []string{"t", "none", ""} {
			nothing(what, given{r: r}.run(t, "p", name), api.ErrInvalid)
			nothing(what, given{r: r, env: badEnvironments()["twice"]}.run(t, "p", name), api.ErrInvalid)
		}
	}
	for what, env := range badEnvironments() {
		for _, name := range []string{"t", "none", ""} {
			nothing(what, given{r: oneOf(), env: env}.run(t, "p", name), api.ErrInvalid)
		}
	}
	for _, name := range []string{"f", "g", "gen", "two", "twice", "far", "lost", "data", "none", "", "T", "t ", "\xff"} {
		nothing(name, given{r: oneOf()}.run(t, "p", name), api.ErrUnknown)
	}
	for _, pkg := range []string{"q", "none", "", "P", "a.src"} {
		nothing(pkg, given{r: oneOf()}.run(t, pkg, "t"), api.ErrUnknown)
	}
	nothing("no files", given{}.run(t, "p", "t"), api.ErrUnknown)
	if a := (given{r: oneOf()}).run(t, "p", "t"); a.e != api.OK {
		t.Errorf("Run of t: %v", a)
	}
	if a := (given{r: oneOf()}).run(t, "q", "two"); a.e != api.OK || a.run.Result != passed(5) {
		t.Errorf("Run of a test with the name of an ambiguous function: %v", a)
	}
}

func TestCallErrors(t *testing.T) {
	nothing := func(what string, a answer, e api.Errno) {
		t.Helper()
		if !a.same(answer{e: e}) {
			t.Errorf("%s: %v", what, a)
		}
	}
	wrong := [][]int{{api.MaxValue + 1}, {-api.MaxValue - 1}, {0, math.MaxInt}, {math.MinInt, 0}, {0, 0, 0, 0, 0, 0, 0, 0, 0, api.MaxValue + 1}}
	lists := append([][]int{nil, {}, {0}, {1, 2}, {0, 0, 0}, make([]int, 100)}, wrong...)
	for what, r := range bad() {
		for _, name := range []string{"f", "none", ""} {
			for _, args := range lists {
				nothing(what, given{r: r}.call(t, "p", name, args...), api.ErrInvalid)
			}
		}
	}
	for what, env := range badEnvironments() {
		for _, name := range []string{"f", "none", ""} {
			for _, args := range lists {
				nothing(what, given{r: oneOf(), env: env}.call(t, "p", name, args...), api.ErrInvalid)
			}
		}
	}
	g := given{r: oneOf()}
	for _, args := range wrong {
		for _, name := range []string{"f", "g", "two", "none", ""} {
			nothing(name, g.call(t, "p", name, args...), api.ErrInvalid)
		}
	}
	for _, args := range lists[:6] {
		for _, name := range []string{"t", "gen", "two", "twice", "far", "lost", "data", "none", "", "F", "\xff"} {
			nothing(name, g.call(t, "p", name, args...), api.ErrUnknown)
		}
		for _, pkg := range []string{"q", "none", "", "P"} {
			nothing(pkg, g.call(t, pkg, "f", args...), api.ErrUnknown)
		}
		nothing("no files", given{}.call(t, "p", "f", args...), api.ErrUnknown)
		if a := g.call(t, "p", "f", args...); len(args) != 0 && !a.same(answer{e: api.ErrArity}) || len(args) == 0 && a.v != 1 {
			t.Errorf("Call of f with %v: %v", args, a)
		}
		if a := g.call(t, "p", "g", args...); len(args) != 2 && !a.same(answer{e: api.ErrArity}) || len(args) == 2 && a.v != -1 {
			t.Errorf("Call of g with %v: %v", args, a)
		}
	}
	if a := g.call(t, "q", "twice"); a.e != api.OK || a.v != 6 {
		t.Errorf("Call of a function with the name of an ambiguous test: %v", a)
	}
}

// TestExamples has the examples of the document.
func TestExamples(t *testing.T) {
	g := given{r: of("p.src", "package p; func f(x) = x * x; test t = f(2) == 4;")}
	if a := g.run(t, "p", "t"); !a.same(answer{run: api.Run{Result: passed(1), Trace: keys("func p f", "test p t"), Steps: 7}}) {
		t.Errorf("f(2) == 4: %v", a)
	}
	g = given{r: of("p.src", "package p; test t = if has(\"a.dat\") then 1 else 0;")}
	if a := g.run(t, "p", "t"); !a.same(answer{run: api.Run{Result: failed, Trace: keys("test p t", "gen a.dat", "data a.dat"), Steps: 3}}) {
		t.Errorf("has without a file: %v", a)
	}
}

// TestCallValues has functions that pass, fail and break.
func TestCallValues(t *testing.T) {
	g := given{r: of("p.src", "package p; func f(x) = 10 / x + flip(0) - flip(0); func zero(x) = x * flip(1);"), word: 3}
	for x, want := range map[int]answer{
		5: {v: 2, run: api.Run{Result: passed(2), Random: true, Trace: keys("func p f"), Steps: 7}}, -3: {v: -3, run: api.Run{Result: passed(-3), Random: true, Trace: keys("func p f"), Steps: 7}},
		11: {run: api.Run{Result: failed, Random: true, Trace: keys("func p f"), Steps: 7}}, 0: {run: api.Run{Result: broken(api.ErrDivide), Trace: keys("func p f"), Steps: 5}},
		api.MaxValue: {run: api.Run{Result: failed, Random: true, Trace: keys("func p f"), Steps: 7}},
	} {
		if a := g.call(t, "p", "f", x); !a.same(want) {
			t.Errorf("f(%d): %v instead of %v", x, a, want)
		}
	}
	for _, x := range []int{0, api.MaxValue, -api.MaxValue} {
		if a := g.call(t, "p", "zero", x); a.v != x || a.run.Result != resultOf(x) {
			t.Errorf("zero(%d): %v", x, a)
		}
	}
	g.r = of("p.src", "package p; func f(a, b, c, d, e, f, g, h) = a + 2 * b + 4 * c + 8 * d + 16 * e + 32 * f + 64 * g + 128 * h; test t = f(0, 1, 0, 1, 1, 0, 0, 1);")
	if a := g.call(t, "p", "f", 1, 0, 1, 1, 0, 1, 0, 1); a.v != 173 {
		t.Errorf("a function with eight parameters: %v", a)
	}
	if a := g.run(t, "p", "t"); a.run.Result != passed(154) {
		t.Errorf("a call with eight arguments: %v", a)
	}
}

// TestFlips has each bit alone and all others.
func TestFlips(t *testing.T) {
	for bit := range api.MaxFlips {
		r := of("p.src", fmt.Sprintf("package p; test t = flip(%d) + 1; test u = if 0 then flip(%d) else 1; test v = flip(%d) / 0;", bit, bit, bit))
		for word, v := range map[uint64]int{1 << bit: 1, ^uint64(1 << bit): 0, 0: 0, ^uint64(0): 1} {
			g := given{r: r, word: word}
			if a := g.run(t, "p", "t"); a.run.Result != passed(v+1) || !a.run.Random || len(a.run.Trace) != 1 {
				t.Errorf("flip(%d) of %x: %v", bit, word, a)
			}
			if a := g.run(t, "p", "u"); a.run.Result != passed(1) || a.run.Random {
				t.Errorf("a flip(%d) that is not evaluated: %v", bit, a)
			}
			if a := g.run(t, "p", "v"); a.run.Result != broken(api.ErrDivide) || !a.run.Random {
				t.Errorf("a flip(%d) before an error: %v", bit, a)
			}
		}
	}
}

// TestBytes reads each byte, also by gens, whose values are taken modulo 256.
func TestBytes(t *testing.T) {
	var all []byte
	for c := range 256 {
		all = append(all, byte(c))
	}
	r := of("all", string(all), "empty", "", "p.src", "package p; func at(i) = read(\"all\", i); func none(i) = read(\"empty\", i); test t = size(\"all\"); test u = size(\"empty\") + 2 * has(\"empty\");")
	g := given{r: r}
	for i := -3; i < 260; i++ {
		want := answer{run: api.Run{Result: broken(api.ErrRange), Trace: keys("func p at", "data all"), Steps: 2}}
		if i >= 0 && i < 256 {
			want.v, want.run.Result = i, resultOf(i)
		}
		if a := g.call(t, "p", "at", i); !a.same(want) {
			t.Errorf("the byte %d: %v", i, a)
		}
		if a := g.call(t, "p", "none", i); a.run.Result != broken(api.ErrRange) {
			t.Errorf("the byte %d of an empty file: %v", i, a)
		}
	}
	if a := g.run(t, "p", "t"); a.run.Result != passed(256) {
		t.Errorf("the size of a file: %v", a)
	}
	if a := g.run(t, "p", "u"); a.run.Result != passed(2) {
		t.Errorf("the size of an empty file: %v", a)
	}
	for _, v := range []int{0, 1, 255, 256, 257, 511, 512, -1, -255, -256, -257, api.MaxValue, api.MaxValue - 1, -api.MaxValue, -api.MaxValue + 1} {
		g.r = of("p.src", fmt.Sprintf("package p; gen \"g\" = %d; test t = read(\"g\", 0);", v))
		if a := g.run(t, "p", "t"); a.run.Result != resultOf((v%256+256)%256) || a.run.Steps != 3 {
			t.Errorf("a gen with the value %d: %v", v, a)
		}
	}
}

// TestOwnFiles has names that mean something else in the file of each declaration.
func TestOwnFiles(t *testing.T) {
	g := given{r: of(
		"a.src", "package p; import q; test t = 100 * out() + 10 * here() + read(\"g\", 0); func here() = 1; gen \"h\" = here();",
		"b.src", "package q; import s; func out() = here(); func here() = 2; gen \"g\" = here() + deep() + read(\"h\", 0);",
		"c.src", "package s; func deep() = here(); func here() = 3; func out() = 9;",
		"d.src", "package p; import s; test u = out();",
	)}
	want := answer{run: api.Run{Result: passed(216), Trace: keys("func p here", "func p out", "func q deep", "func q here", "func q out", "func s deep", "func s here", "test p t", "gen g", "gen h", "data g", "data h"), Steps: 24}}
	if a := g.run(t, "p", "t"); !a.same(want) {
		t.Errorf("Run of t: %v", a)
	}
	want = answer{run: api.Run{Result: passed(9), Trace: keys("func p out", "func s out", "test p u"), Steps: 2}}
	if a := g.run(t, "p", "u"); !a.same(want) {
		t.Errorf("Run of u: %v", a)
	}
}

// TestResultsShareNothing checks that results have memory of their own.
func TestResultsShareNothing(t *testing.T) {
	g := given{r: copyOf(of("data.file", "bytes", "file.src", "package pack; import imported; test tes = fun(1) + env(\"variable\") + env(\"variable\") + has(\"path/none\"); func fun(x) = size(\"data.file\") + more(); gen \"path/gen\" = env(\"variable\");", "other.src", "package imported; func more() = read(\"path/gen\", 0);"))}
	g.env.Variables = []api.Variable{{Name: strings.Clone("variable"), Value: 3}}
	name, pkg, fun := api.Name{Package: strings.Clone("pack"), Test: strings.Clone("tes")}, strings.Clone("pack"), strings.Clone("fun")
	given := []string{g.env.Variables[0].Name, name.Package, name.Test, pkg, fun}
	for _, f := range g.r.Files {
		given = append(given, f.Path, f.Bytes)
	}
	first, e := evaluate.Run(g.r, g.env, 0, name)
	second, _ := evaluate.Run(g.r, g.env, 0, name)
	_, third, _ := evaluate.Call(g.r, g.env, 0, pkg, fun, []int{1})
	want := answer{run: api.Run{Result: passed(14), Trace: keys("func imported more", "func pack fun", "func pack more", "test pack tes", "gen path/gen", "gen path/none", "data data.file", "data path/gen", "data path/none", "env variable"), Steps: 14}}
	if got := (answer{run: first, e: e}); !got.same(want) {
		t.Errorf("Run: %v", got)
	}
	for _, run := range []api.Run{first, second, third} {
		for _, k := range run.Trace {
			for _, s := range []string{k.A, k.B} {
				if slices.ContainsFunc(given, func(other string) bool { return overlap(s, other) }) {
					t.Errorf("%q of %v shares memory", s, run)
				}
				given = append(given, s)
			}
		}
	}
	clear(first.Trace[:cap(first.Trace)])
	if again, e := evaluate.Run(g.r, g.env, 0, name); !slices.Equal(again.Trace, second.Trace) || e != api.OK {
		t.Errorf("Run is %v after a change of its result", again)
	}
}
