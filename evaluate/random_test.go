package evaluate_test

import (
	"fmt"
	"testing"

	"testgate/api"
)

// compare compares Run or Call of the declaration with a key with the model, and returns what both say.
func compare(t *testing.T, l []draft, vars map[string]int, word uint64, k api.Key, args ...int) (a answer, m model) {
	t.Helper()
	g := given{revisionOf(l), environment(vars), word}
	if k.Kind == api.KeyTest {
		a = g.run(t, k.A, k.B)
	} else {
		a = g.call(t, k.A, k.B, args...)
	}
	m = model{l: l, vars: vars, word: word}
	if want := m.answer(k, args...); !a.same(want) {
		t.Errorf("%v with %v at %q in %v: %v instead of %v", k, args, g.r, g.env, a, want)
	}
	return a, m
}

// TestRandomRevisions compares Run and Call with the model on random revisions.
func TestRandomRevisions(t *testing.T) {
	d := dice(1)
	seen := map[string]int{}
	count := func(a answer, m model) {
		seen[fmt.Sprintf("kind %d, error %d, random %t", a.run.Result.Kind, a.run.Result.Error, a.run.Random)]++
		seen[fmt.Sprintf("error %d", a.e)]++
		seen[fmt.Sprintf("%d keys", min(len(a.run.Trace), 6))]++
	}
	for range 400 {
		l, vars, word := d.drafts(), d.variables(), d.bits()
		for _, pkg := range pkgs {
			for _, test := range testNames {
				count(compare(t, l, vars, word, api.Key{Kind: api.KeyTest, A: pkg, B: test}))
			}
			for at, name := range funcNames {
				var args []int
				for range d.arity(at) {
					args = append(args, d.number())
				}
				count(compare(t, l, vars, word, api.Key{Kind: api.KeyFunc, A: pkg, B: name}, args...))
			}
		}
	}
	for _, e := range []api.Errno{api.ErrRange, api.ErrDivide, api.ErrName, api.ErrAmbiguous, api.ErrArity, api.ErrData, api.ErrEnv, api.ErrDepth} {
		for _, random := range []bool{false, true} {
			if what := fmt.Sprintf("kind %d, error %d, random %t", api.Broken, e, random); seen[what] < 5 {
				t.Errorf("only %d times %s", seen[what], what)
			}
		}
	}
	for _, what := range []string{"kind 1, error 0, random false", "kind 1, error 0, random true", "kind 2, error 0, random false", "kind 2, error 0, random true", "error 0", "error 13", "error 18", "1 keys", "2 keys", "6 keys"} {
		if seen[what] < 50 {
			t.Errorf("only %d times %s", seen[what], what)
		}
	}
}

// TestOperators compares all operators with the model on pairs of values, many of them at a limit.
func TestOperators(t *testing.T) {
	var values []int
	for _, v := range []int{0, 1, 2, 3, 7, 255, 94906265, 94906266, 94906267, 1 << 26, 1<<26 + 1, 1 << 27, 1 << 32, api.MaxValue / 3, api.MaxValue/2 - 1, api.MaxValue / 2, api.MaxValue/2 + 1, api.MaxValue - 1, api.MaxValue} {
		values = append(values, v, -v)
	}
	var f draft
	f.path, f.pkg = "a.src", "p"
	for op := api.OpAdd; op <= api.OpEqual; op++ {
		sides := []tree{{kind: api.ExprParam}, {kind: api.ExprParam, number: 1}}
		f.decls = append(f.decls, declared{api.DeclFunc, fmt.Sprint("op", op), []string{"a", "b"}, tree{kind: api.ExprBinary, op: op, args: sides}})
	}
	seen := map[api.Errno]int{}
	for op := api.OpAdd; op <= api.OpEqual; op++ {
		for _, a := range values {
			for _, b := range values {
				got, _ := compare(t, []draft{f}, nil, 0, api.Key{Kind: api.KeyFunc, A: "p", B: fmt.Sprint("op", op)}, a, b)
				seen[got.run.Result.Error]++
			}
		}
	}
	if seen[api.ErrRange] < 200 || seen[api.ErrDivide] != 4*len(values) || seen[api.OK] < 5000 {
		t.Errorf("seen: %v", seen)
	}
}
