package record_test

import (
	"slices"
	"testing"

	"testgate/api"
	"testgate/evaluate"
	"testgate/packages"
	"testgate/record"
)

// history is revisions in environments, and the records of all runs there, in one store.
type history struct {
	places  []given // of all revisions in the first environment, and then in the second one
	s       api.Store
	records []api.Record
	at      []int // the places of the records
}

// history returns a random history of some revisions, the last one of which is the first one again.
func (d *dice) history(t *testing.T) (h history) {
	t.Helper()
	first := d.given()
	revisions := []given{first}
	for range 3 {
		revisions = append(revisions, d.changed(revisions[len(revisions)-1]))
	}
	revisions = append(revisions, first)
	h.places = slices.Clone(revisions)
	for _, g := range revisions {
		h.places = append(h.places, g.set("os", 3+d.roll(2), true).set("x", 0, d.roll(2) > 0))
	}
	for i, g := range h.places {
		for _, test := range packages.Tests(g.r) {
			run, e := evaluate.Run(g.r, g.env, uint64(d.roll(16)), test)
			if e != api.OK {
				continue
			}
			for _, at := range levels {
				head := api.Record{Test: test, Revision: i % len(revisions), Environment: i / len(revisions), Level: at}
				s, c, e := record.Make(h.s, g.r, g.env, head, run)
				if e != api.OK || record.Check(s, c) != api.OK {
					t.Fatalf("Make of %v at %v: error %d; Check: error %d", run, g, e, record.Check(s, c))
				}
				h.s, h.records, h.at = s, append(h.records, c), append(h.at, i)
			}
		}
	}
	return h
}

// TestTrueRecords checks that records of runs never conflict, hold where they were made, and are read back (P14.6).
func TestTrueRecords(t *testing.T) {
	d := dice(4)
	pairs, random := 0, 0
	for range 25 {
		h := d.history(t)
		for i, c := range h.records {
			g := h.places[h.at[i]]
			if at, e := record.Holds(h.s, g.r, g.env, c); at != -1 || e != api.OK {
				t.Errorf("%s does not hold where it was made: %d, error %d", brief(c), at, e)
			}
			var want []int
			for j, other := range h.records {
				if record.Conflict(c, other) {
					t.Errorf("%s and %s conflict", brief(c), brief(other))
				}
				if other.Test == c.Test && other.Environment == c.Environment && !other.Random {
					want = append(want, j)
					pairs++
				}
			}
			if got := record.Usable(h.records, c.Test, c.Environment); !slices.Equal(got, want) {
				t.Errorf("Usable of the test of %s is %v instead of %v", brief(c), got, want)
			}
			if c.Random {
				random++
			}
		}
		l, e := record.Encode(h.records)
		back, other := record.Decode(l)
		if e != api.OK || other != api.OK || !slices.EqualFunc(back, h.records, record.Same) {
			t.Errorf("%d records are read back as %d, errors %d and %d", len(h.records), len(back), e, other)
		}
	}
	if pairs < 1000 || random < 50 {
		t.Errorf("%d pairs, %d random records", pairs, random)
	}
}

// TestHeldResults checks that a record that holds elsewhere has the result of a run there, whatever the word is, and that a finer record holds wherever a coarser one does.
func TestHeldResults(t *testing.T) {
	d := dice(5)
	var held, other [4]int
	for range 15 {
		h := d.history(t)
		for i, c := range h.records {
			for j, g := range h.places {
				at, e := record.Holds(h.s, g.r, g.env, c)
				if e != api.OK {
					t.Fatalf("Holds of %s: error %d", brief(c), e)
				}
				if at != -1 {
					other[c.Level]++
					continue
				}
				held[c.Level]++
				run, e := evaluate.Run(g.r, g.env, uint64(d.roll(16)), c.Test)
				if !c.Random && (e != api.OK || run.Random || run.Result != c.Result) {
					t.Errorf("%s holds at %v, but the run there is %v, error %d", brief(c), g, run, e)
				}
				if c.Level > api.LevelFunction {
					if at, _ := record.Holds(h.s, g.r, g.env, h.records[i-1]); at != -1 {
						t.Errorf("%s holds in place %d, but not %s", brief(c), j, brief(h.records[i-1]))
					}
				}
			}
		}
	}
	if held[1] <= held[2] || held[2] <= held[3] || held[3] < 500 || other[1] < 200 {
		t.Errorf("so many records of each level hold: %v, and do not: %v", held, other)
	}
}

// TestFalseRecords checks that a record that was changed conflicts with the one that it was, so that neither is used.
func TestFalseRecords(t *testing.T) {
	d := dice(6)
	changes := []func(c *api.Record){
		func(c *api.Record) { c.Result = api.Result{Kind: api.Passed, Value: 77} },
		func(c *api.Record) { c.Result, c.Revision = api.Result{Kind: api.Broken, Error: api.ErrArity}, 8 },
		func(c *api.Record) { c.Facts = c.Facts[1:] },
		func(c *api.Record) { c.Facts = append(c.Facts, facts("tree zz 0")...) },
	}
	for range 5 {
		h := d.history(t)
		for i, c := range h.records {
			for _, change := range changes {
				wrong := changed(c, change)
				if c.Random || c.Result.Error == api.ErrArity {
					continue
				}
				l := append(slices.Clone(h.records), wrong)
				if !record.Conflict(c, wrong) || record.Check(h.s, wrong) != api.OK {
					t.Errorf("%s and %s do not conflict", brief(c), brief(wrong))
				}
				if got := record.Usable(l, c.Test, c.Environment); slices.Contains(got, i) || slices.Contains(got, len(l)-1) {
					t.Errorf("%s and %s are used: %v", brief(c), brief(wrong), got)
				}
			}
		}
	}
}
