package source_test

import (
	"testing"

	"testgate/api"
	"testgate/source"
)

// wantSame checks Same both ways.
func wantSame(t *testing.T, a, b api.Source, want bool) {
	t.Helper()
	x, y := copyOf(a), copyOf(b)
	if source.Same(a, b) != want || source.Same(b, a) != want {
		t.Errorf("Same of %v and %v is not %t", a, b, want)
	}
	if !equal(a, x) || !equal(b, y) {
		t.Errorf("Same changed %v or %v", x, y)
	}
}

// sample returns a source that has everything, in memory of its own.
func sample() api.Source {
	return api.Source{Package: "p", Imports: []string{"q", "r"}, Decls: []api.Decl{
		function("f", []string{"a", "b"}, binary(api.OpAdd, param(0), call("g", number(1), number(2)))), test("t", named(api.ExprSize, "x")), gen("y", flip(3)),
	}}
}

// TestSame changes each part of a source alone.
func TestSame(t *testing.T) {
	wantSame(t, sample(), sample(), true)
	for _, change := range []func(f *api.Source){
		func(f *api.Source) { f.Package = "" },
		func(f *api.Source) { f.Imports[0] = "Q" },
		func(f *api.Source) { f.Imports[1] = "q" },
		func(f *api.Source) { f.Imports[0], f.Imports[1] = "r", "q" },
		func(f *api.Source) { f.Imports = f.Imports[:1] },
		func(f *api.Source) { f.Imports = append(f.Imports, "") },
		func(f *api.Source) { f.Imports = nil },
		func(f *api.Source) { f.Decls = f.Decls[:2] },
		func(f *api.Source) { f.Decls = nil },
		func(f *api.Source) { f.Decls = append(f.Decls, api.Decl{}) },
		func(f *api.Source) { f.Decls[0], f.Decls[1] = f.Decls[1], f.Decls[0] },
		func(f *api.Source) { f.Decls[1].Kind = api.DeclGen },
		func(f *api.Source) { f.Decls[0].Name = "g" },
		func(f *api.Source) { f.Decls[2].Name = "Y" },
		func(f *api.Source) { f.Decls[0].Params[1] = "c" },
		func(f *api.Source) { f.Decls[0].Params = f.Decls[0].Params[:1] },
		func(f *api.Source) { f.Decls[0].Params = nil },
		func(f *api.Source) { f.Decls[1].Params = []string{""} },
		func(f *api.Source) { f.Decls[2].Body = nil },
		func(f *api.Source) { f.Decls[0].Body = f.Decls[0].Body[:4] },
		func(f *api.Source) { f.Decls[1].Body = append(f.Decls[1].Body, api.Expr{}) },
		func(f *api.Source) { f.Decls[0].Body[0].Number = 1 },
		func(f *api.Source) { f.Decls[0].Body[0].Kind = api.ExprNumber },
		func(f *api.Source) { f.Decls[0].Body[2].Number = 3 },
		func(f *api.Source) { f.Decls[0].Body[3].Name = "h" },
		func(f *api.Source) { f.Decls[0].Body[3].Args[0], f.Decls[0].Body[3].Args[1] = 2, 1 },
		func(f *api.Source) { f.Decls[0].Body[3].Args = f.Decls[0].Body[3].Args[:1] },
		func(f *api.Source) { f.Decls[0].Body[3].Args = nil },
		func(f *api.Source) { f.Decls[0].Body[4].Op = api.OpSub },
		func(f *api.Source) { f.Decls[0].Body[4].Args[1] = 2 },
		func(f *api.Source) { f.Decls[1].Body[0].Args = []int{0} },
		func(f *api.Source) { f.Decls[1].Body[0].Op = 1 },
		func(f *api.Source) { f.Decls[2].Body[0].Name = "x" },
	} {
		f := sample()
		change(&f)
		wantSame(t, f, sample(), false)
		wantSame(t, f, f, true)
		wantSame(t, f, copyOf(f), true)
	}
}

func TestSameEmpty(t *testing.T) {
	empty := api.Source{Imports: []string{}, Decls: []api.Decl{}}
	wantSame(t, api.Source{}, empty, true)
	wantSame(t, api.Source{Decls: []api.Decl{{}}}, empty, false)
	wantSame(t, api.Source{Imports: []string{""}}, empty, false)
	wantSame(t, api.Source{Decls: []api.Decl{{}}}, api.Source{Decls: []api.Decl{{Params: []string{}, Body: []api.Expr{}}}}, true)
	wantSame(t, api.Source{Decls: []api.Decl{{Body: []api.Expr{{}}}}}, api.Source{Decls: []api.Decl{{Body: []api.Expr{{Args: []int{}}}}}}, true)
	wantSame(t, api.Source{Decls: []api.Decl{{Params: []string{""}}}}, api.Source{Decls: []api.Decl{{}}}, false)
	wantSame(t, api.Source{Decls: []api.Decl{{Body: []api.Expr{{}}}}}, api.Source{Decls: []api.Decl{{}}}, false)
}

// TestSameAsText compares the equality of random sources with that of their texts.
func TestSameAsText(t *testing.T) {
	d := dice(7)
	same := 0
	for range 6000 {
		a, b := file(function("f", []string{"a"}, d.tree(2, 1))), file(function("f", []string{"a"}, d.tree(2, 1)))
		x, e := source.Format(a)
		y, f := source.Format(b)
		if e != api.OK || f != api.OK {
			t.Fatalf("Format: errors %d and %d", e, f)
		}
		if x == y {
			same++
		}
		wantSame(t, a, b, x == y)
	}
	if same < 30 {
		t.Errorf("only %d pairs were equal", same)
	}
}
