package evaluate_test

import (
	"fmt"
	"strings"
	"testing"

	"testgate/api"
)

// sum returns a sum of n equal terms.
func sum(term string, n int) string { return strings.Repeat(term+" + ", n-1) + term }

// busy returns a revision whose test t uses so many steps (from 19792 to 20040) before it asks for a variable, which is one step more.
func busy(steps int) api.Revision {
	rest := steps - 77*256 - 76 - 3 // 77 calls of many, the sums of them, and two sums and a call more
	one := "1"                      // has an odd number of steps, and one() an even one
	if rest%2 == 0 {
		one = "one()"
	}
	return of("p.src", "package p; func one() = 1; func many() = "+sum("1", 128)+"; func rest() = "+one+strings.Repeat(" + 1", (rest-1)/2)+"; test t = "+sum("many()", 77)+" + rest() + env(\"v\");")
}

// TestSteps has tests whose last step is before, at and behind the last one that is allowed. The step that is too many does not look up anything.
func TestSteps(t *testing.T) {
	for steps := api.MaxSteps - 20; steps <= api.MaxSteps+20; steps++ {
		g := given{r: busy(steps), env: environment(map[string]int{"v": 7})}
		want := answer{run: api.Run{Trace: keys("func p many", "func p one", "func p rest", "test p t", "env v"), Steps: steps + 1}}
		if steps%2 == 0 {
			want.run.Trace = keys("func p many", "func p rest", "test p t", "env v")
		}
		without := want
		without.run.Result = broken(api.ErrEnv)
		if steps >= api.MaxSteps {
			want.run.Steps, want.run.Result = api.MaxSteps, broken(api.ErrSteps)
			want.run.Trace = want.run.Trace[:len(want.run.Trace)-1]
			without = want
		}
		a := g.run(t, "p", "t")
		if steps < api.MaxSteps {
			want.run.Result = a.run.Result
			if v := a.run.Result.Value; a.run.Result != passed(v) || v < 77*128+7 {
				t.Errorf("%d steps: %v", steps, a)
			}
		}
		if !a.same(want) {
			t.Errorf("%d steps: %v instead of %v", steps, a, want)
		}
		g.env = api.Environment{}
		if a := g.run(t, "p", "t"); !a.same(without) {
			t.Errorf("%d steps without the variable: %v instead of %v", steps, a, without)
		}
	}
}

// TestStepsOfNodes has each kind of node as the last step and as a step too many, which is ErrSteps whatever the node is, and looks up nothing.
func TestStepsOfNodes(t *testing.T) {
	for _, x := range []string{"1", "none()", "1 / 0", "if 1 then 1 else 1", "read(\"none\", 0)", "size(\"none\")", "has(\"none\")", "env(\"none\")", "flip(0)"} {
		for _, steps := range []int{api.MaxSteps - 1, api.MaxSteps} {
			r := busy(steps)
			r.Files[0].Bytes = strings.Replace(r.Files[0].Bytes, " + env(\"v\")", " + ("+x+")", 1)
			a := (given{r: r}).run(t, "p", "t")
			if late := steps == api.MaxSteps; late && (a.run.Result != broken(api.ErrSteps) || a.run.Random || a.run.Steps != api.MaxSteps || len(a.run.Trace) > 4) {
				t.Errorf("%s as step number %d: %v", x, steps+1, a)
			} else if !late && x == "has(\"none\")" && (a.run.Result.Kind != api.Passed || len(a.run.Trace) != 6) {
				t.Errorf("%s as step number %d: %v", x, steps+1, a)
			}
		}
	}
}

// deep is a revision in which down(n) lets n + 1 declarations be evaluated, and then what the parameters tell.
func deep(last string) api.Revision {
	return of("a.dat", "x", "p.src", "package p; func down(n) = if n == 0 then "+last+" else down(n - 1); func one() = 1; func two(x) = 2 + x; gen \"gen\" = 7; gen \"self\" = read(\"self\", 0); func am() = 1; gen \"am\" = 1; test t = down(62); test late = down(63); test self = read(\"self\", 0); test again = down(62) * 2 + down(62);", "q.src", "package p; func am() = 2; gen \"am\" = 2;")
}

// TestDepth has what is evaluated while as many declarations are evaluated as possible, and one less.
func TestDepth(t *testing.T) {
	for last, c := range map[string]struct{ under, at api.Result }{
		"5": {passed(5), passed(5)}, "n + 3": {passed(3), passed(3)}, "has(\"gen\")": {passed(1), passed(1)}, "size(\"gen\")": {passed(1), passed(1)}, "read(\"a.dat\", 0)": {passed('x'), passed('x')},
		"one()": {passed(1), broken(api.ErrDepth)}, "two(3)": {passed(5), broken(api.ErrDepth)}, "read(\"gen\", 0)": {passed(7), broken(api.ErrDepth)},
		"two(1 / 0)": {broken(api.ErrDivide), broken(api.ErrDivide)}, "one(1)": {broken(api.ErrArity), broken(api.ErrArity)}, "two()": {broken(api.ErrArity), broken(api.ErrArity)}, "none()": {broken(api.ErrName), broken(api.ErrName)}, "am()": {broken(api.ErrAmbiguous), broken(api.ErrAmbiguous)}, "two(one())": {passed(3), broken(api.ErrDepth)},
		"read(\"gen\", 1)": {broken(api.ErrRange), broken(api.ErrRange)}, "read(\"gen\", 1 / 0)": {broken(api.ErrDivide), broken(api.ErrDivide)}, "read(\"am\", 0)": {broken(api.ErrAmbiguous), broken(api.ErrAmbiguous)}, "read(\"none\", 0)": {broken(api.ErrData), broken(api.ErrData)},
		"one() + none()": {broken(api.ErrName), broken(api.ErrDepth)}, "read(\"gen\", 0) + none()": {broken(api.ErrName), broken(api.ErrDepth)},
	} {
		g := given{r: deep(last)}
		for n, want := range map[int]api.Result{api.MaxDepth - 2: c.under, api.MaxDepth - 1: c.at, api.MaxDepth: broken(api.ErrDepth), 200: broken(api.ErrDepth)} {
			if a := g.call(t, "p", "down", n); a.run.Result != want || a.v != want.Value {
				t.Errorf("%s at the depth %d: %v instead of %v", last, n+1, a, want)
			}
		}
		if a := g.run(t, "p", "t"); a.run.Result != c.at {
			t.Errorf("%s in a test: %v instead of %v", last, a, c.at)
		}
		if a := g.run(t, "p", "late"); a.run.Result != broken(api.ErrDepth) {
			t.Errorf("%s in a test that is too deep: %v", last, a)
		}
	}
	g := given{r: deep("5")}
	if a := g.run(t, "p", "again"); a.run.Result != passed(15) {
		t.Errorf("a test that is deep twice: %v", a)
	}
	want := answer{run: api.Run{Result: broken(api.ErrDepth), Trace: keys("test p self", "gen self", "data self"), Steps: 2 * api.MaxDepth}}
	if a := g.run(t, "p", "self"); !a.same(want) {
		t.Errorf("a gen that reads itself: %v", a)
	}
}

// TestGreatestBodies has bodies of which each has 255 nodes, most of them nested, and calls itself innermost.
func TestGreatestBodies(t *testing.T) {
	text := "package p; func f(n) = if n == 0 then 0 else f(n - 1)" + strings.Repeat(" + 1", 123) + "; test t = f(62);"
	want := answer{run: api.Run{Result: passed(62 * 123), Trace: keys("func p f", "test p t"), Steps: 2 + 62*(255-1) + 5}}
	if a := (given{r: of("p.src", text)}).run(t, "p", "t"); !a.same(want) {
		t.Errorf("great bodies: %v instead of %v", a, want)
	}
	if a := (given{r: of("p.src", strings.Replace(text, "+ 1", "+ 1 + 1", 1))}).run(t, "p", "t"); a.e != api.ErrUnknown {
		t.Errorf("bodies that are too great: %v", a)
	}
}

// TestManyFunctions has a test that calls a function of each of as many files as possible.
func TestManyFunctions(t *testing.T) {
	var l []string
	for i := range api.MaxFiles {
		next := "1"
		if i+1 < api.MaxFiles {
			next = fmt.Sprintf("f%02d() + f%02d() %% 2", i+1, api.MaxFiles-1)
		}
		l = append(l, fmt.Sprintf("%02d.src", i), fmt.Sprintf("package p; func f%02d() = %s; test t%02d = f%02d();", i, next, i, i))
	}
	a := given{r: of(l...)}.run(t, "p", "t01")
	if a.run.Result != passed(api.MaxFiles-1) || len(a.run.Trace) != api.MaxFiles || a.run.Steps != 2+62*6 {
		t.Errorf("a chain of functions: %v", a)
	}
	if a := (given{r: of(l...)}).run(t, "p", "t00"); a.run.Result != broken(api.ErrDepth) || len(a.run.Trace) != api.MaxFiles+1 {
		t.Errorf("a chain of functions that is too deep: %v", a)
	}
}
