package level_test

import (
	"slices"
	"testing"

	"testgate/api"
	"testgate/evaluate"
	"testgate/fact"
	"testgate/level"
	"testgate/packages"
)

// kept returns the keys whose contents are the same at a and at b.
func kept(t *testing.T, a, b given, keys []api.Key) map[api.Key]bool {
	t.Helper()
	before, e := fact.Contents(a.r, a.env, keys)
	after, other := fact.Contents(b.r, b.env, keys)
	if e != api.OK || other != api.OK {
		t.Fatalf("Contents of %v at %v and %v: errors %d and %d", keys, a, b, e, other)
	}
	same := map[api.Key]bool{}
	for i, k := range keys {
		same[k] = before[i] == after[i]
	}
	return same
}

// all tells whether all keys of a list, at a level, are the same.
func all(t *testing.T, l []api.Key, at int, same map[api.Key]bool) bool {
	t.Helper()
	l, e := level.Keys(l, at)
	if e != api.OK {
		t.Fatalf("Keys of %v at the level %d: error %d", l, at, e)
	}
	for _, k := range l {
		if is, known := same[k]; !known {
			t.Fatalf("Keys of a list at the level %d has %v", at, k)
		} else if !is {
			return false
		}
	}
	return true
}

// TestFinerContents makes changes of random revisions and environments: where the contents of keys are the same at a level, so are those at finer levels, and those of the keys themselves (P12.3). There are lists of one key, and of three.
func TestFinerContents(t *testing.T) {
	d := dice(2)
	keys := allKeys()
	var held [4]int
	for range 300 {
		a := d.given()
		b := d.changed(a)
		same := kept(t, a, b, keys)
		var lists [][]api.Key
		for i := range keys {
			lists = append(lists, keys[i:i+1], []api.Key{keys[d.roll(len(keys))], keys[d.roll(len(keys))], keys[i]})
		}
		for _, l := range lists {
			var holds [4]bool
			holds[0] = !slices.ContainsFunc(l, func(k api.Key) bool { return !same[k] })
			for _, at := range levels {
				holds[at] = all(t, l, at, same)
			}
			for at, is := range holds {
				if is && slices.Contains(holds[:at], false) {
					t.Fatalf("%v hold at the level %d, but not at all finer ones: %v, from %v to %v", l, at, holds, a, b)
				}
				if is {
					held[at]++
				}
			}
		}
	}
	if held[0] != held[1] || held[1] < held[2]+300 || held[2] < held[3]+300 || held[3] < 3000 {
		t.Errorf("so many lists hold by themselves, and at each level: %v", held)
	}
}

// TestCarriedByLevels makes changes of random revisions and environments: where the trace of a run holds at a level, the result there is the same, whatever the word is of a run that is not random (P12.3).
func TestCarriedByLevels(t *testing.T) {
	d := dice(3)
	var held, differ [4]int
	for range 300 {
		a := d.given()
		b := d.changed(a)
		same := kept(t, a, b, allKeys())
		for _, name := range packages.Tests(a.r) {
			word := uint64(d.roll(1 << 31))
			before, e := evaluate.Run(a.r, a.env, word, name)
			if e != api.OK {
				t.Fatalf("Run of %v at %v: error %d", name, a, e)
			}
			if !before.Random {
				word = ^word
			}
			after, e := evaluate.Run(b.r, b.env, word, name)
			right := e == api.OK && after.Result == before.Result && slices.Equal(after.Trace, before.Trace)
			for _, at := range levels {
				holds := all(t, before.Trace, at, same)
				if holds {
					held[at]++
				}
				if !right {
					differ[at]++
				}
				if holds && !right {
					t.Errorf("%v holds at the level %d, but was %v and is %v, error %d, from %v to %v", name, at, before, after, e, a, b)
				}
			}
		}
	}
	if held[1] < held[2]+30 || held[2] < held[3]+30 || held[3] < 300 || differ[1] < 30 {
		t.Errorf("so many runs hold at each level: %v; so many differ: %v", held, differ)
	}
}

// TestExample has the changes that a function, its files and their packages see (P12.3).
func TestExample(t *testing.T) {
	first := given{r: api.Revision{Files: []api.File{
		{Path: "a.src", Bytes: "package p; import q; test t = f(1) + has(\"g\");"},
		{Path: "b.src", Bytes: "package p; import r; func f(x) = x; func g() = 1;"},
		{Path: "q.src", Bytes: "package q; func f(x) = 2;"},
		{Path: "r.src", Bytes: "package r; func f(x) = 3;"},
		{Path: "s.src", Bytes: "package s; import p; func f(x) = 4;"},
	}}}
	run, e := evaluate.Run(first.r, first.env, 0, api.Name{Package: "p", Test: "t"})
	if want := []api.Key{key("func p f"), key("test p t"), key("gen g"), key("data g")}; e != api.OK || !slices.Equal(run.Trace, want) {
		t.Fatalf("the trace is %v, error %d", run.Trace, e)
	}
	for name, c := range map[string]struct {
		after given
		holds [3]bool
	}{
		"nothing":                  {first, [3]bool{true, true, true}},
		"the function":             {first.put("b.src", "package p; import r; func f(x) = 0; func g() = 1;", true), [3]bool{}},
		"another function":         {first.put("b.src", "package p; import r; func f(x) = x; func g() = 2;", true), [3]bool{true, false, false}},
		"a comment":                {first.put("b.src", "package p; import r; func f(x) = x; func g() = 1;#", true), [3]bool{true, false, false}},
		"a new file":               {first.put("c.src", "package p;", true), [3]bool{true, false, false}},
		"an import of the test":    {first.put("q.src", "package q; func f(x) = 5;", true), [3]bool{true, true, false}},
		"an import of the package": {first.put("r.src", "", false), [3]bool{true, true, false}},
		"a package that imports p": {first.put("s.src", "package s;", true), [3]bool{true, true, true}},
		"a gen of another package": {first.put("s.src", "package s; gen \"g\" = 1;", true), [3]bool{}},
		"another gen":              {first.put("s.src", "package s; gen \"h\" = 1;", true), [3]bool{true, true, true}},
		"data":                     {first.put("g", "", true), [3]bool{}},
		"a variable":               {first.set("p", 1, true), [3]bool{true, true, true}},
	} {
		same := kept(t, first, c.after, allKeys())
		for i, at := range levels {
			if got := all(t, run.Trace, at, same); got != c.holds[i] {
				t.Errorf("%s was changed: at the level %d the run holds: %t", name, at, got)
			}
		}
	}
}
