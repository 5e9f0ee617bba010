package record_test

import (
	"slices"
	"testing"

	"testgate/api"
	"testgate/evaluate"
	"testgate/fact"
	"testgate/packages"
	"testgate/record"
)

// holdsOf returns what Holds has to return where there is no error.
func holdsOf(t *testing.T, s api.Store, g given, c api.Record) int {
	t.Helper()
	for i, f := range c.Facts {
		text, e := fact.Content(g.r, g.env, f.Key)
		if e != api.OK {
			t.Fatalf("Content of %v: error %d", f.Key, e)
		}
		if text != s.Texts[f.Content] {
			return i
		}
	}
	return -1
}

// wantHolds checks what Holds returns where there is no error, and that its arguments are as before.
func wantHolds(t *testing.T, s api.Store, g given, c api.Record) int {
	t.Helper()
	texts, files, vars, before := slices.Clone(s.Texts), slices.Clone(g.r.Files), slices.Clone(g.env.Variables), copyOf(c)
	want := holdsOf(t, s, g, c)
	if at, e := record.Holds(s, g.r, g.env, c); at != want || e != api.OK {
		t.Errorf("Holds of %s at %v: %d instead of %d, error %d", brief(c), g, at, want, e)
	}
	if !slices.Equal(s.Texts, texts) || !slices.Equal(g.r.Files, files) || !slices.Equal(g.env.Variables, vars) || !equal(c, before) {
		t.Errorf("Holds changes its arguments: %v, %s", g, brief(c))
	}
	return want
}

// TestHolds has the records of random revisions there, after changes, and in another environment (P14.4).
func TestHolds(t *testing.T) {
	d := dice(2)
	seen := map[int]int{}
	for range 60 {
		g := d.given()
		after := []given{g, d.changed(g), d.changed(g), g.set("os", 7, true), {}}
		for _, test := range packages.Tests(g.r) {
			run, e := evaluate.Run(g.r, g.env, uint64(d.roll(16)), test)
			if e != api.OK {
				continue
			}
			for _, at := range levels {
				s, c, e := record.Make(of("x"), g.r, g.env, api.Record{Test: test, Level: at}, run)
				if e != api.OK {
					t.Fatalf("Make: error %d", e)
				}
				for _, g := range after {
					seen[min(wantHolds(t, s, g, c), 3)]++
				}
			}
		}
	}
	for at := -1; at < 4; at++ {
		if seen[at] < 20 {
			t.Errorf("Holds is only %d times %d", seen[at], at)
		}
	}
}

// TestHoldsInPlaces gives each fact, and two facts, another content (P14.4).
func TestHoldsInPlaces(t *testing.T) {
	g := sample()
	trace := keys("func p f,func q f,func none none,test p t,gen g,gen none,data a.dat,data b.dat,data none,env none,env os,files p,tree p")
	s, c, e := record.Make(of("x"), g.r, g.env, api.Record{Test: name, Level: api.LevelFunction}, api.Run{Result: passed, Trace: trace})
	if e != api.OK || len(c.Facts) != len(trace) {
		t.Fatalf("Make: %s, error %d", brief(c), e)
	}
	for i := range c.Facts {
		for j := range c.Facts {
			x := changed(c, func(c *api.Record) { c.Facts[i].Content, c.Facts[j].Content = 0, 0 })
			if got := wantHolds(t, s, g, x); got != min(i, j) {
				t.Errorf("Holds with other contents of the facts %d and %d: %d", i, j, got)
			}
		}
	}
	for path, want := range map[string]int{"a.dat": 6, "b.dat": 7, "none": 8, "x.src": -1} {
		if got := wantHolds(t, s, g.put(path, "new", true), c); got != want {
			t.Errorf("Holds after a change of %s: %d", path, got)
		}
	}
	if got := wantHolds(t, s, g.set("os", 5, true), c); got != 10 {
		t.Errorf("Holds after a change of os: %d", got)
	}
	for _, x := range []api.Record{changed(c, func(c *api.Record) { c.Facts = nil }), changed(c, func(c *api.Record) { c.Random = true }), changed(c, func(c *api.Record) { c.Result = failed })} {
		if got := wantHolds(t, s, g, x); got != -1 {
			t.Errorf("Holds of %s: %d", brief(x), got)
		}
	}
}

// TestHoldsErrors has each error of a record, and a bad revision and environment, also without facts (P14.4).
func TestHoldsErrors(t *testing.T) {
	s, good := of("x", "", "y"), sample()
	badFile := good.put("Z", "", true)
	badVariable := good.set("Z", 0, true)
	for _, c := range []api.Record{base(1, facts("gen g 0, data a.dat 1, data b.dat 2")), base(1, facts("gen g 0")), base(3, nil)} {
		for _, g := range []given{badFile, badVariable, {badFile.r, badVariable.env}} {
			if i, e := record.Holds(s, g.r, g.env, c); i != 0 || e != api.ErrInvalid {
				t.Errorf("Holds of %s at %v: %d, error %d", brief(c), g, i, e)
			}
		}
		for at := range c.Facts {
			for _, f := range faults(at, 3) {
				for _, g := range []given{good, badFile, badVariable} {
					if i, e := record.Holds(s, g.r, g.env, changed(c, f.change)); i != 0 || e != f.e {
						t.Errorf("Holds with %s in fact %d: %d, error %d", f.name, at, i, e)
					}
				}
			}
		}
	}
}
