package record_test

import (
	"slices"
	"strings"
	"testing"

	"testgate/api"
	"testgate/contents"
	"testgate/evaluate"
	"testgate/fact"
	"testgate/level"
	"testgate/packages"
	"testgate/record"
)

var levels = []int{api.LevelFunction, api.LevelFile, api.LevelPackage}

// made returns what Make has to return where there is no error, from one Put after the other.
func made(t *testing.T, s api.Store, g given, c api.Record, run api.Run) (api.Store, api.Record) {
	t.Helper()
	l, e := level.Keys(run.Trace, c.Level)
	if e != api.OK {
		t.Fatalf("Keys of %v: error %d", run.Trace, e)
	}
	c.Result, c.Random, c.Facts = run.Result, run.Random, nil
	for _, k := range l {
		text, e := fact.Content(g.r, g.env, k)
		if e != api.OK {
			t.Fatalf("Content of %v: error %d", k, e)
		}
		var n int
		if s, n, e = contents.Put(s, text); e != api.OK {
			t.Fatalf("Put: error %d", e)
		}
		c.Facts = append(c.Facts, api.Fact{Key: k, Content: n})
	}
	return s, c
}

// wantMade checks what Make returns where there is no error, and that its arguments are as before.
func wantMade(t *testing.T, s api.Store, g given, c api.Record, run api.Run) (api.Store, api.Record) {
	t.Helper()
	wantStore, want := made(t, s, g, c, run)
	texts, files, vars, before, trace := slices.Clone(s.Texts), slices.Clone(g.r.Files), slices.Clone(g.env.Variables), copyOf(c), slices.Clone(run.Trace)
	out, got, e := record.Make(s, g.r, g.env, c, run)
	if !slices.Equal(out.Texts, wantStore.Texts) || !equal(got, want) || e != api.OK {
		t.Errorf("Make of %v at %v: %s, error %d, instead of %s; the texts are %.300q instead of %.300q", run, g, brief(got), e, brief(want), out.Texts, wantStore.Texts)
	}
	if !slices.Equal(s.Texts, texts) || !slices.Equal(g.r.Files, files) || !slices.Equal(g.env.Variables, vars) || !equal(c, before) || !slices.Equal(run.Trace, trace) {
		t.Errorf("Make changes its arguments: %v, %s, %v", g, brief(c), run)
	}
	return out, got
}

// TestMake makes records of the runs of random revisions, one after the other into one store, at each level (P14.2).
func TestMake(t *testing.T) {
	d := dice(1)
	seen := map[string]int{}
	for n := range 80 {
		g := d.given()
		s := []api.Store{{}, of("x", "-", "=1"), of("?", "=0", "")}[n%3]
		for _, test := range packages.Tests(g.r) {
			run, e := evaluate.Run(g.r, g.env, uint64(d.roll(16)), test)
			if e != api.OK {
				continue
			}
			for _, at := range levels {
				head := api.Record{Test: test, Revision: d.roll(9), Environment: d.roll(9), Level: at}
				old := len(s.Texts)
				var c api.Record
				s, c = wantMade(t, s, g, head, run)
				seen[[]string{"", "passed", "failed", "broken"}[c.Result.Kind]]++
				for _, f := range c.Facts {
					if f.Content < old {
						seen["an old text"]++
					} else {
						seen["a new text"]++
					}
				}
				if c.Random {
					seen["random"]++
				}
			}
		}
	}
	for _, what := range []string{"passed", "failed", "broken", "random", "an old text", "a new text"} {
		if seen[what] < 20 {
			t.Errorf("only %d times %s: %v", seen[what], what, seen)
		}
	}
}

// sample is a revision with two packages.
func sample() given {
	return given{r: api.Revision{Files: []api.File{
		{Path: "a.dat", Bytes: "A"}, {Path: "b.dat", Bytes: "A"},
		{Path: "p.src", Bytes: "package p; import q; func f(x) = x; test t = f(read(\"a.dat\", 0));"},
		{Path: "q.src", Bytes: "package q; func f(x) = 1; gen \"g\" = 0;"},
	}}, env: api.Environment{Variables: []api.Variable{{Name: "os", Value: -5}}}}
}

// TestMakeOfTraces has lists of keys that are in any order, with repetitions, and those that nothing has (P14.2).
func TestMakeOfTraces(t *testing.T) {
	for _, trace := range [][]api.Key{
		nil, {}, keys("test p t"), keys("data a.dat,data a.dat"), keys("env os,data b.dat,data a.dat,func p f,test p t,func p f"), keys("gen g,gen none,data none,env none,func p none,test none none,func none none"),
		keys("tree p,files p,func p f,files q,tree q,files none,tree none,func q f"), keys("data b.dat,data g,data p.src"),
	} {
		for _, at := range levels {
			for _, s := range []api.Store{{}, of("=A", "x"), of("x", "-", "=-5")} {
				head := api.Record{Test: name, Level: at}
				wantMade(t, s, sample(), head, api.Run{Result: failed, Trace: trace})
				wantMade(t, s, given{}, head, api.Run{Result: passed, Trace: trace, Random: true, Steps: 7})
			}
		}
	}
}

// TestMakeExample has the numbers of contents that occur twice (P14.2).
func TestMakeExample(t *testing.T) {
	head := api.Record{Test: name, Revision: 7, Environment: 2, Level: api.LevelFunction, Result: api.Result{Kind: 9}, Random: true, Facts: facts("gen g 99")}
	run := api.Run{Result: passed, Trace: keys("data b.dat,data a.dat,env os,data none,gen none")}
	s, c, e := record.Make(of("=-5"), sample().r, sample().env, head, run)
	want := api.Record{Test: name, Revision: 7, Environment: 2, Level: api.LevelFunction, Result: passed, Facts: facts("gen none 1, data a.dat 2, data b.dat 2, data none 1, env os 0")}
	if !slices.Equal(s.Texts, []string{"=-5", "-", "=A"}) || !equal(c, want) || e != api.OK {
		t.Errorf("Make: %s, %q, error %d", brief(c), s.Texts, e)
	}
}

// TestMakeLimits has as many keys as possible, before and after they became coarser, and stores with just enough room (P14.2).
func TestMakeLimits(t *testing.T) {
	g := sample()
	head := api.Record{Test: name, Level: api.LevelFunction}
	trace := many(api.MaxFacts + 1)
	for i := range trace {
		trace[i].Kind = api.KeyEnv
	}
	wantMade(t, of(), g, head, api.Run{Result: failed, Trace: trace[1:]})
	wantMade(t, of(), g, head, api.Run{Result: failed, Trace: slices.Concat(trace[1:], trace[1:], trace[5:])})
	if _, _, e := record.Make(of(), g.r, g.env, head, api.Run{Result: failed, Trace: trace}); e != api.ErrLimit {
		t.Errorf("Make of one key too many: error %d", e)
	}
	for i := range trace {
		trace[i] = api.Key{Kind: api.KeyFunc, A: "p", B: trace[i].A}
	}
	trace = slices.Concat(trace, keys("test q t,gen g"))
	for _, at := range levels[1:] {
		head.Level = at
		wantMade(t, of(), g, head, api.Run{Result: failed, Trace: trace})
	}
	head.Level = api.LevelFunction
	run := api.Run{Result: failed, Trace: keys("data a.dat,data b.dat,data none,gen none,env os")} // the contents =A, - and =-5
	for room := range 5 {
		for _, texts := range [][]string{nil, {"-"}, {"=A", "-"}, {"=A", "-", "=-5"}} {
			s := full(api.MaxTexts - room - len(texts))
			s.Texts = append(s.Texts, texts...)
			if room+len(texts) >= 3 {
				wantMade(t, s, g, head, run)
				continue
			}
			if out, c, e := record.Make(s, g.r, g.env, head, run); len(out.Texts) > 0 || !equal(c, api.Record{}) || e != api.ErrLimit {
				t.Errorf("Make with room for %d texts and %q: %s, error %d", room, texts, brief(c), e)
			}
		}
	}
}

// arguments are those of Make.
type arguments struct {
	s   api.Store
	g   given
	c   api.Record
	run api.Run
}

// wrongArguments returns changes of arguments, each with its error.
func wrongArguments() map[string]func(a *arguments) api.Errno {
	at := func(e api.Errno, change func(a *arguments)) func(a *arguments) api.Errno {
		return func(a *arguments) api.Errno {
			change(a)
			return e
		}
	}
	l := map[string]func(a *arguments) api.Errno{
		"nothing":             at(api.OK, func(a *arguments) {}),
		"a text twice":        at(api.ErrTwice, func(a *arguments) { a.s = of("y", "z", "y") }),
		"a bad path":          at(api.ErrInvalid, func(a *arguments) { a.g.r.Files = append(a.g.r.Files, api.File{Path: "Z"}) }),
		"a file twice":        at(api.ErrInvalid, func(a *arguments) { a.g.r.Files = append(a.g.r.Files, a.g.r.Files...) }),
		"a variable":          at(api.ErrInvalid, func(a *arguments) { a.g.env.Variables = append(a.g.env.Variables, api.Variable{Name: "a"}) }),
		"a value":             at(api.ErrInvalid, func(a *arguments) { a.g.env.Variables[0].Value = api.MaxValue + 1 }),
		"a result":            at(api.ErrInvalid, func(a *arguments) { a.run.Result.Value = 1 }),
		"no result":           at(api.ErrInvalid, func(a *arguments) { a.run.Result.Kind = 0 }),
		"a broken result":     at(api.ErrInvalid, func(a *arguments) { a.run.Result = api.Result{Kind: api.Broken, Error: api.ErrUnknown} }),
		"a key":               at(api.ErrInvalid, func(a *arguments) { a.run.Trace = append(a.run.Trace, key("func p f"), key("data A")) }),
		"a first key":         at(api.ErrInvalid, func(a *arguments) { a.run.Trace = append([]api.Key{{}}, a.run.Trace...) }),
		"too many keys":       at(api.ErrLimit, func(a *arguments) { a.run.Trace = append(a.run.Trace, many(api.MaxFacts+1)...) }),
		"a full store":        at(api.ErrLimit, func(a *arguments) { a.s.Texts = append(a.s.Texts, full(api.MaxTexts-len(a.s.Texts)).Texts...) }),
		"no result in the c":  at(api.OK, func(a *arguments) { a.c.Result = api.Result{Kind: 7} }),
		"bad facts in the c":  at(api.OK, func(a *arguments) { a.c.Facts = facts("func p p -1, func A A 1") }),
		"a random c":          at(api.OK, func(a *arguments) { a.c.Random = true }),
		"any number of steps": at(api.OK, func(a *arguments) { a.run.Steps = -1 }),
	}
	for _, f := range faults(0, 0)[:10] { // those of what a record has before its run
		l[f.name] = at(f.e, func(a *arguments) { f.change(&a.c) })
	}
	return l
}

// TestMakeErrors has each error, and with a second one (P14.2).
func TestMakeErrors(t *testing.T) {
	l := wrongArguments()
	for one, change := range l {
		for other, second := range l {
			g := sample()
			a := arguments{of("x"), g, api.Record{Test: name, Level: api.LevelFile}, api.Run{Result: failed, Trace: keys("test p t,data a.dat")}}
			want := firstOf(change(&a), second(&a))
			if want == api.OK {
				wantMade(t, a.s, a.g, a.c, a.run)
				continue
			}
			s, c, e := record.Make(a.s, a.g.r, a.g.env, a.c, a.run)
			if len(s.Texts) > 0 || !equal(c, api.Record{}) || e != want {
				t.Errorf("Make with %s and %s: %q, %s, error %d instead of %d", one, other, s.Texts, brief(c), e, want)
			}
		}
	}
	a := arguments{s: full(api.MaxTexts + 1), c: api.Record{Level: 9}}
	if _, _, e := record.Make(a.s, a.g.r, a.g.env, a.c, a.run); e != api.ErrLimit {
		t.Errorf("Make with too many texts: error %d", e)
	}
}

// TestMakeSharesNothing checks that stores and records have memory of their own (R3).
func TestMakeSharesNothing(t *testing.T) {
	g, s := sample(), of(strings.Repeat("long ", 20), "=A")
	trace := keys("test p t,data a.dat,func p f,files p,tree q")
	head := api.Record{Test: api.Name{Package: "package", Test: "test"}, Level: api.LevelFunction}
	run := api.Run{Result: passed, Trace: trace}
	given := slices.Concat(s.Texts, stringsOf(head), stringsOfKeys(trace))
	for _, f := range g.r.Files {
		given = append(given, f.Path, f.Bytes)
	}
	out, c, _ := record.Make(s, g.r, g.env, head, run)
	again, second, _ := record.Make(s, g.r, g.env, head, run)
	if share(append(stringsOf(c), out.Texts...), given) || share(append(stringsOf(c), out.Texts...), append(stringsOf(second), again.Texts...)) || share(stringsOf(c), out.Texts) {
		t.Error("Make shares strings")
	}
	texts, facts := slices.Clone(out.Texts), slices.Clone(c.Facts)
	clear(again.Texts)
	clear(second.Facts)
	clear(s.Texts)
	clear(trace)
	clear(g.r.Files)
	if !slices.Equal(out.Texts, texts) || !slices.Equal(c.Facts, facts) {
		t.Error("Make shares memory")
	}
}
