package evaluate_test

import (
	"fmt"
	"math"
	"slices"
	"strings"
	"testing"

	"testgate/api"
	"testgate/evaluate"
)

// many returns n variables, ascending by their names.
func many(n int) (l []api.Variable) {
	for i := range n {
		l = append(l, api.Variable{Name: fmt.Sprintf("v%02d", i), Value: i})
	}
	return l
}

func TestCheckEnvironment(t *testing.T) {
	type list = []api.Variable
	for what, c := range map[string]struct {
		l  list
		ok bool
	}{
		"nothing": {nil, true}, "an empty list": {list{}, true}, "one": {list{{Name: "a"}}, true}, "two": {list{{Name: "a", Value: 2}, {Name: "b", Value: 1}}, true},
		"as many as possible": {many(api.MaxEnv), true}, "one too many": {many(api.MaxEnv + 1), false}, "far too many": {many(90), false},
		"the same name twice": {list{{Name: "a"}, {Name: "a"}}, false}, "twice at the end": {list{{Name: "a"}, {Name: "b"}, {Name: "b", Value: 1}}, false}, "descending": {list{{Name: "b"}, {Name: "a"}}, false}, "descending at the end": {list{{Name: "a"}, {Name: "c"}, {Name: "b"}}, false}, "a name again": {list{{Name: "a"}, {Name: "b"}, {Name: "a"}}, false},
		"bytewise": {list{{Name: "a"}, {Name: "a0"}, {Name: "a9"}, {Name: "a_"}, {Name: "aa"}, {Name: "b"}}, true}, "a longer name first": {list{{Name: "aa"}, {Name: "a"}}, false}, "a digit after a letter": {list{{Name: "aa"}, {Name: "a0"}}, false},
	} {
		before := slices.Clone(c.l)
		if evaluate.CheckEnvironment(api.Environment{Variables: c.l}) != c.ok {
			t.Errorf("CheckEnvironment of %s is not %t", what, c.ok)
		}
		if !slices.Equal(c.l, before) {
			t.Errorf("%s was changed", what)
		}
	}
	long := strings.Repeat("n", api.MaxName)
	for name, ok := range map[string]bool{
		"a": true, "z": true, "a_1": true, "if": true, "package": true, long: true,
		"": false, "A": false, "aB": false, "1": false, "_": false, "a.b": false, "a/b": false, "a b": false, " a": false, "a\n": false, "é": false, "\xff": false, "\x00": false, "a\x00": false, long + "n": false,
	} {
		for _, l := range [][]api.Variable{{{Name: name}}, {{Name: name}, {Name: "zz"}}, {{Name: "a"}, {Name: name}}} {
			want := ok && (l[0].Name < l[len(l)-1].Name || len(l) == 1)
			if evaluate.CheckEnvironment(api.Environment{Variables: l}) != want {
				t.Errorf("CheckEnvironment of %v is not %t", l, want)
			}
		}
	}
	for v, ok := range map[int]bool{
		0: true, -1: true, api.MaxValue: true, -api.MaxValue: true,
		api.MaxValue + 1: false, -api.MaxValue - 1: false, math.MaxInt: false, math.MinInt: false,
	} {
		for at := range 3 {
			l := many(3)
			l[at].Value = v
			if evaluate.CheckEnvironment(api.Environment{Variables: l}) != ok {
				t.Errorf("CheckEnvironment of %v is not %t", l, ok)
			}
		}
	}
}

func TestVariable(t *testing.T) {
	for n := range api.MaxEnv + 1 {
		l := many(n)
		env := api.Environment{Variables: l}
		for _, x := range many(api.MaxEnv) {
			v, ok := evaluate.Variable(env, x.Name)
			if want := slices.Contains(l, x); ok != want || want && v != x.Value || !want && v != 0 {
				t.Errorf("Variable %s of %d is %d, %t", x.Name, n, v, ok)
			}
		}
		for _, name := range []string{"", "v", "v0", "v000", "V00", "a", "z", "\xff"} {
			if v, ok := evaluate.Variable(env, name); v != 0 || ok {
				t.Errorf("Variable %q of %d is %d, %t", name, n, v, ok)
			}
		}
		if !slices.Equal(l, many(n)) {
			t.Errorf("the variables %v were changed", l)
		}
	}
	for _, v := range []int{0, -1, api.MaxValue, -api.MaxValue} {
		if got, ok := evaluate.Variable(api.Environment{Variables: []api.Variable{{Name: "a", Value: v}}}, "a"); got != v || !ok {
			t.Errorf("Variable with the value %d is %d, %t", v, got, ok)
		}
	}
}
