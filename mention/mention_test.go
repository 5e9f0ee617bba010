package mention_test

import (
	"math"
	"regexp"
	"slices"
	"sort"
	"strconv"
	"strings"
	"testing"
	"unsafe"

	"testgate/api"
	"testgate/mention"
	"testgate/source"
)

// mentions is all that a declaration mentions.
type mentions struct {
	calls, paths, variables []string
	flips                   bool
}

// wantMentions checks what a declaration mentions, and that it is not changed.
func wantMentions(t *testing.T, name string, d api.Decl, want mentions) {
	t.Helper()
	before := copyOf(api.Source{Decls: []api.Decl{d}})
	for _, c := range []struct {
		what      string
		got, want []string
	}{{"Calls", mention.Calls(d), want.calls}, {"Paths", mention.Paths(d), want.paths}, {"Variables", mention.Variables(d), want.variables}} {
		if !slices.Equal(c.got, c.want) {
			t.Errorf("%s of %s: %q instead of %q", c.what, name, c.got, c.want)
		}
	}
	if flips := mention.Flips(d); flips != want.flips {
		t.Errorf("Flips of %s: %t", name, flips)
	}
	if !equal(api.Source{Decls: []api.Decl{d}}, before) {
		t.Errorf("%s was changed", name)
	}
}

func TestMentions(t *testing.T) {
	for s, want := range map[string]mentions{
		`test t = f(read("a.dat", 0));`:                 {calls: []string{"f"}, paths: []string{"a.dat"}},
		`test t = 1;`:                                   {},
		`func f(x) = x;`:                                {},
		`func f(x) = f(f(x));`:                          {calls: []string{"f"}},
		`gen "a/b" = size("a/b");`:                      {paths: []string{"a/b"}},
		`test t = b() + a_() + a() + a1();`:             {calls: []string{"a", "a1", "a_", "b"}},
		`test t = has("b") + size("a") + read("c", 0);`: {paths: []string{"a", "b", "c"}},
		`test t = has("a") + size("a") + read("a", 0);`: {paths: []string{"a"}},
		`test t = has("a/b") + has("a.b") + has("a");`:  {paths: []string{"a", "a.b", "a/b"}},
		`test t = env("v") + env("u") + env("v");`:      {variables: []string{"u", "v"}},
		`test t = flip(0);`:                             {flips: true},
		`test t = if 0 then 1 else flips();`:            {calls: []string{"flips"}},
		`test t = x(has("x"), env("x"), flip(63));`:     {calls: []string{"x"}, paths: []string{"x"}, variables: []string{"x"}, flips: true},
		`test t = if f() then if g() then env("a") else 0 else 0 - has("z") * read("y", size("x") + flip(1));`: {calls: []string{"f", "g"}, paths: []string{"x", "y", "z"}, variables: []string{"a"}, flips: true},
	} {
		wantMentions(t, s, parse(t, "package p; "+s).Decls[0], want)
	}
}

var (
	called   = regexp.MustCompile(`([a-z0-9_]+)\(`)
	looked   = regexp.MustCompile(`(?:read|size|has)\("([^"]*)"`)
	variable = regexp.MustCompile(`env\("([^"]*)"`)
	flipped  = regexp.MustCompile(`\bflip\(`)
)

// found returns what an expression finds in a text but some words, ascending, each once.
func found(e *regexp.Regexp, s string, but ...string) []string {
	seen := map[string]bool{}
	for _, match := range e.FindAllStringSubmatch(s, -1) {
		if !slices.Contains(but, match[1]) {
			seen[match[1]] = true
		}
	}
	var l []string
	for name := range seen {
		l = append(l, name)
	}
	sort.Strings(l)
	return l
}

// TestMentionsOfTexts searches the texts of random declarations.
func TestMentionsOfTexts(t *testing.T) {
	d := dice(1)
	all := map[string]int{}
	for range 6000 {
		for _, n := range parse(t, d.text()).Decls {
			s, e := source.Body(n.Body, n.Params)
			if e != api.OK {
				t.Fatalf("Body: error %d", e)
			}
			want := mentions{found(called, s, "read", "size", "has", "env", "flip"), found(looked, s), found(variable, s), flipped.MatchString(s)}
			wantMentions(t, s, n, want)
			for what, some := range map[string]bool{"calls": len(want.calls) > 1, "paths": len(want.paths) > 1, "variables": len(want.variables) > 1, "flips": want.flips, "nothing": len(want.calls)+len(want.paths)+len(want.variables) == 0 && !want.flips} {
				if some {
					all[what]++
				}
			}
		}
	}
	for _, what := range []string{"calls", "paths", "variables", "flips", "nothing"} {
		if all[what] < 100 {
			t.Errorf("%s: only %d", what, all[what])
		}
	}
}

// TestMentionsOfAnything gives nodes that no file has.
func TestMentionsOfAnything(t *testing.T) {
	d := dice(2)
	kinds := []int{-1, 0, 1, 2, 3, 4, 5, 6, 7, 8, 9, 10, 11, 99, math.MaxInt, math.MinInt}
	for range 3000 {
		n := api.Decl{Kind: kinds[d.roll(len(kinds))], Name: d.pick("", "f", "read"), Params: []string{"", "a", "a"}[:d.roll(4)]}
		names := map[int]map[string]bool{}
		for range d.roll(12) {
			kind := kinds[d.roll(len(kinds))]
			name := d.pick("", "//", "A", "B", "a", "a\x00", "\xff", "if", "\u00e9", strings.Repeat("n", 100))
			n.Body = append(n.Body, api.Expr{Kind: kind, Number: d.roll(3) - 1, Op: d.roll(3), Name: name, Args: []int{-1, 0, math.MaxInt}[:d.roll(4)]})
			if names[kind] == nil {
				names[kind] = map[string]bool{}
			}
			names[kind][name] = true
		}
		ascending := func(kinds ...int) []string {
			seen := map[string]bool{}
			for _, kind := range kinds {
				for name := range names[kind] {
					seen[name] = true
				}
			}
			var l []string
			for name := range seen {
				l = append(l, name)
			}
			sort.Strings(l)
			return l
		}
		wantMentions(t, "nodes of random kinds", n, mentions{ascending(api.ExprCall), ascending(api.ExprRead, api.ExprSize, api.ExprHas), ascending(api.ExprEnv), names[api.ExprFlip] != nil})
	}
	wantMentions(t, "nothing", api.Decl{}, mentions{})
	wantMentions(t, "an empty body", api.Decl{Kind: api.DeclTest, Name: "f", Params: []string{"f"}, Body: []api.Expr{}}, mentions{})
}

// TestMentionsOfEachKind gives one node with everything in it.
func TestMentionsOfEachKind(t *testing.T) {
	for kind := -1; kind < 13; kind++ {
		want := mentions{flips: kind == 10}
		switch kind {
		case 3:
			want.calls = []string{"x"}
		case 6, 7, 8:
			want.paths = []string{"x"}
		case 9:
			want.variables = []string{"x"}
		}
		d := api.Decl{Kind: api.DeclGen, Name: "y", Body: []api.Expr{{Kind: kind, Number: 10, Op: 3, Name: "x", Args: []int{3}}}}
		wantMentions(t, "a node of the kind "+strconv.Itoa(kind), d, want)
	}
}

// TestMentionsOfManyNodes needs more than MaxNodes nodes.
func TestMentionsOfManyNodes(t *testing.T) {
	var d api.Decl
	var want []string
	for i := range 100000 {
		name := strconv.Itoa(100000 + (i*7919)%100000/2)
		d.Body = append(d.Body, api.Expr{Kind: api.ExprCall, Name: name, Args: []int{i - 1}})
		if i%2 == 0 {
			want = append(want, strconv.Itoa(100000+i/2))
		}
	}
	wantMentions(t, "many nodes", d, mentions{calls: want})
	d.Body = append(d.Body, api.Expr{Kind: api.ExprFlip})
	wantMentions(t, "many nodes and a flip", d, mentions{calls: want, flips: true})
}

// TestMentionsAreNew changes results, and looks whether a name is the memory of a node.
func TestMentionsAreNew(t *testing.T) {
	d := api.Decl{Body: []api.Expr{{Kind: api.ExprCall, Name: strings.Clone("name")}, {Kind: api.ExprRead, Name: strings.Clone("name")}, {Kind: api.ExprEnv, Name: strings.Clone("name")}}}
	for i, list := range []func(d api.Decl) []string{mention.Calls, mention.Paths, mention.Variables} {
		l := list(d)
		if len(l) != 1 || l[0] != "name" || unsafe.StringData(l[0]) == unsafe.StringData(d.Body[i].Name) {
			t.Errorf("list %d: %q", i, l)
			continue
		}
		l[0] = "other"
		if again := list(d); !slices.Equal(again, []string{"name"}) {
			t.Errorf("list %d, after a result was changed: %q", i, again)
		}
	}
}
