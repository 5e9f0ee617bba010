package record_test

import (
	"fmt"
	"slices"
	"testing"

	"testgate/api"
	"testgate/record"
)

// conflictOf returns what Conflict has to return, in the words of the document.
func conflictOf(a, b api.Record) bool {
	if a.Test != b.Test || a.Environment != b.Environment || a.Level != b.Level || a.Random || b.Random {
		return false
	}
	for _, x := range a.Facts {
		for _, y := range b.Facts {
			if x.Key == y.Key && x.Content != y.Content {
				return false
			}
		}
	}
	return a.Result != b.Result || !slices.Equal(a.Facts, b.Facts)
}

// wantConflict checks what Conflict returns for two records, in both orders, and that they are as before.
func wantConflict(t *testing.T, a, b api.Record) bool {
	t.Helper()
	before, other := copyOf(a), copyOf(b)
	want := conflictOf(a, b)
	if record.Conflict(a, b) != want || record.Conflict(b, a) != want {
		t.Errorf("Conflict of %s and %s is not %t", brief(a), brief(b), want)
	}
	if !equal(a, before) || !equal(b, other) {
		t.Errorf("Conflict changes %s or %s", brief(before), brief(other))
	}
	return want
}

// factLists returns lists of facts with some keys: all that ascend, with the contents 0 and 1 and without the key, and some that do not.
func factLists() (l [][]api.Fact) {
	l = [][]api.Fact{nil}
	for _, k := range keys("func p f,data a,data b,env a") {
		for _, before := range l {
			l = append(l, append(slices.Clone(before), api.Fact{Key: k}), append(slices.Clone(before), api.Fact{Key: k, Content: 1}))
		}
	}
	for _, s := range []string{"data a 0, data a 0", "data a 0, data a 1", "data a 1, data a 0", "data b 0, data a 0", "data b 0, data a 1, func p f 0", "data a 0, data b 1, data a 0", "data a 0, data b 1, data a 1, data b 0", "data a 1, data a 1, data a 0", "env a 0, env a 0, func p f 1, env a 0", "data a -1", "data a 5, data b -2", "env a 1, data b 1, data a 1, func p f 1"} {
		l = append(l, facts(s))
	}
	return l
}

// TestConflict has all pairs of some lists of facts, with equal and other results (P14.3).
func TestConflict(t *testing.T) {
	lists := factLists()
	conflicts, others := 0, 0
	for _, x := range lists {
		for _, y := range lists {
			for _, result := range []api.Result{passed, failed, {Kind: api.Passed, Value: 2}} {
				a, b := base(1, x), base(1, y)
				a.Revision, b.Result = 4, result
				if wantConflict(t, a, b) {
					conflicts++
				} else {
					others++
				}
			}
		}
	}
	if len(lists) != 81+12 || conflicts < 2000 || others < 10000 {
		t.Errorf("%d lists, %d conflicts, %d others", len(lists), conflicts, others)
	}
}

// fields returns a change of each field of a record.
func fields() map[string]func(c *api.Record) {
	return map[string]func(c *api.Record){
		"package": func(c *api.Record) { c.Test.Package = "q" }, "test": func(c *api.Record) { c.Test.Test = "u" }, "revision": func(c *api.Record) { c.Revision++ }, "environment": func(c *api.Record) { c.Environment++ }, "level": func(c *api.Record) { c.Level++ },
		"kind": func(c *api.Record) { c.Result.Kind++ }, "value": func(c *api.Record) { c.Result.Value++ }, "error": func(c *api.Record) { c.Result.Error++ }, "random": func(c *api.Record) { c.Random = true },
		"kind of a key": func(c *api.Record) { c.Facts[1].Key.Kind++ }, "A of a key": func(c *api.Record) { c.Facts[1].Key.A += "z" }, "B of a key": func(c *api.Record) { c.Facts[1].Key.B += "z" }, "content": func(c *api.Record) { c.Facts[2].Content++ },
		"a fact less": func(c *api.Record) { c.Facts = c.Facts[:2] }, "a first fact less": func(c *api.Record) { c.Facts = c.Facts[1:] }, "a fact more": func(c *api.Record) { c.Facts = append(c.Facts, facts("tree z 1")...) }, "no facts": func(c *api.Record) { c.Facts = nil }, "another order": func(c *api.Record) { slices.Reverse(c.Facts) },
	}
}

// TestFields changes each field, and two of them, of records that are equal, and of those that conflict (P14.3), and has Same of them.
func TestFields(t *testing.T) {
	conflicts := map[string]bool{}
	for _, c := range []api.Record{base(1, facts("func p f 0, test p t 1, data a 2")), base(2, facts("gen a 0, data a 0, files p 0")), {Facts: facts("data b 1, data a 1, data b 1, gen g 0")}} {
		for one, first := range fields() {
			a := changed(c, first)
			if record.Same(a, c) || record.Same(c, a) || !record.Same(a, copyOf(a)) {
				t.Errorf("Same of a record with another %s, or of its copy", one)
			}
			conflicts[one] = wantConflict(t, c, a)
			if record.Conflict(a, copyOf(a)) {
				t.Errorf("Conflict of %s and its copy", brief(a))
			}
			for other, second := range fields() {
				full := changed(c, func(c *api.Record) { c.Facts = append(c.Facts, facts("tree x 0, tree y 0, tree z 0")...) })
				a, b := changed(full, first), changed(full, second)
				if record.Same(a, b) != equal(a, b) || (one == other) != equal(a, b) {
					t.Errorf("Same of records with another %s and %s", one, other)
				}
				wantConflict(t, a, b)
			}
		}
	}
	for one := range fields() {
		want := !slices.Contains([]string{"package", "test", "revision", "environment", "level", "random", "content"}, one)
		if conflicts[one] != want {
			t.Errorf("a record and that with another %s: the conflict is %t", one, conflicts[one])
		}
	}
	if !record.Same(api.Record{}, api.Record{Facts: []api.Fact{}}) || record.Conflict(api.Record{}, api.Record{Facts: []api.Fact{}}) {
		t.Error("nil and no facts are not the same")
	}
}

// TestConflictExample is that of the document, with a random record, and with the same results.
func TestConflictExample(t *testing.T) {
	a := base(1, facts("data a.dat 3"))
	b := changed(a, func(c *api.Record) { c.Result = failed })
	other := changed(b, func(c *api.Record) { c.Facts[0].Content = 4 })
	random := changed(b, func(c *api.Record) { c.Random = true })
	for _, x := range []struct {
		a, b api.Record
		want bool
	}{{a, b, true}, {a, other, false}, {b, other, false}, {a, random, false}, {random, random, false}, {a, a, false}} {
		if wantConflict(t, x.a, x.b) != x.want {
			t.Errorf("Conflict of %s and %s is not %t", brief(x.a), brief(x.b), x.want)
		}
	}
}

// usableOf returns what Usable has to return.
func usableOf(l []api.Record, test api.Name, environment int) (out []int) {
	for i, c := range l {
		alone := c.Test == test && c.Environment == environment && !c.Random
		for j, other := range l {
			alone = alone && (i == j || !conflictOf(c, other))
		}
		if alone {
			out = append(out, i)
		}
	}
	return out
}

// TestUsable has random lists of records of two tests, environments and levels (P14.3).
func TestUsable(t *testing.T) {
	d := dice(3)
	lists := factLists()
	seen := map[string]int{}
	for range 2000 {
		var l []api.Record
		for range d.roll(8) {
			c := base(1+d.roll(20)/17, lists[d.roll(len(lists))])
			if d.roll(4) == 0 {
				c.Result = failed
			}
			if d.roll(5) == 0 {
				c.Test.Test = "u"
			}
			c.Environment = d.roll(6) / 5
			c.Random = d.roll(5) == 0
			c.Revision = d.roll(4)
			l = append(l, c)
			if d.roll(4) == 0 {
				l = append(l, copyOf(c))
			}
		}
		for _, test := range []api.Name{name, {Package: "p", Test: "u"}, {Package: "q", Test: "t"}} {
			for environment := -1; environment < 3; environment++ {
				before := slices.Clone(l)
				want := usableOf(l, test, environment)
				if got := record.Usable(l, test, environment); !slices.Equal(got, want) || !allEqual(l, before) {
					t.Errorf("Usable of %v is %v instead of %v", l, got, want)
				}
				seen[fmt.Sprint(len(want))]++
			}
		}
	}
	for _, n := range []string{"0", "1", "2", "3"} {
		if seen[n] < 100 {
			t.Errorf("only %d times %s records are usable", seen[n], n)
		}
	}
}

// TestUsableExample has two records that conflict, which are both not used, and those that a third one does not touch.
func TestUsableExample(t *testing.T) {
	a := base(1, facts("data a 0, data b 0"))
	b := changed(a, func(c *api.Record) { c.Result = failed })
	other := changed(b, func(c *api.Record) { c.Facts[1].Content = 1 })
	random := changed(b, func(c *api.Record) { c.Random = true })
	elsewhere := changed(b, func(c *api.Record) { c.Environment = 2 })
	coarse := changed(b, func(c *api.Record) { c.Level = api.LevelFile })
	later := changed(a, func(c *api.Record) { c.Revision = 9 })
	less := changed(a, func(c *api.Record) { c.Facts = c.Facts[:1] })
	for _, x := range []struct {
		l    []api.Record
		want []int
	}{
		{nil, nil}, {[]api.Record{a}, []int{0}}, {[]api.Record{random}, nil}, {[]api.Record{a, b}, nil}, {[]api.Record{a, other, random, elsewhere, coarse, later}, []int{0, 1, 4, 5}},
		{[]api.Record{a, later, b, other}, []int{3}}, {[]api.Record{less, other, a}, nil}, {[]api.Record{other, a, other}, []int{0, 1, 2}}, {[]api.Record{elsewhere, a}, []int{1}}, {[]api.Record{b, random, a, random}, nil},
	} {
		if got := record.Usable(x.l, name, 1); !slices.Equal(got, x.want) {
			t.Errorf("Usable of %v is %v instead of %v", x.l, got, x.want)
		}
	}
}

// TestManyRecords has as many records of one test as possible, of which the last two conflict.
func TestManyRecords(t *testing.T) {
	var l []api.Record
	for i := range api.MaxRecords {
		c := base(1, manyFacts(40, 0))
		c.Facts[39].Content = i
		l = append(l, c)
	}
	l[api.MaxRecords-1].Facts[39].Content--
	l[api.MaxRecords-1].Result = failed
	got := record.Usable(l, name, 1)
	if len(got) != api.MaxRecords-2 || got[len(got)-1] != api.MaxRecords-3 {
		t.Errorf("%d of %d records are usable", len(got), len(l))
	}
}
