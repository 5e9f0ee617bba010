package record_test

import (
	"fmt"
	"math"
	"slices"
	"strings"
	"testing"

	"testgate/api"
	"testgate/record"
)

// TestCheckResult has all kinds with all errors and values at the limits (P14.1).
func TestCheckResult(t *testing.T) {
	const most = 1 << 53
	values := []int{0, 1, -1, 2, 256, most - 1, most, most + 1, -most + 1, -most, -most - 1, math.MaxInt, math.MinInt}
	right := 0
	for kind := -1; kind < 6; kind++ {
		for e := api.Errno(-2); e < 60; e++ {
			for _, v := range values {
				x := api.Result{Kind: kind, Value: v, Error: e}
				if record.CheckResult(x) != isResult(x) {
					t.Errorf("CheckResult of %v is not %t", x, isResult(x))
				}
				if isResult(x) {
					right++
				}
			}
		}
	}
	if right != 8+1+15 {
		t.Errorf("%d results are right", right)
	}
	for _, x := range []api.Result{{Kind: math.MinInt}, {Kind: math.MaxInt, Value: 1}, {Kind: api.Broken, Error: math.MaxInt}, {Kind: api.Broken, Error: math.MinInt}} {
		if record.CheckResult(x) {
			t.Errorf("CheckResult of %v", x)
		}
	}
}

// TestCheck has records that are right, at their limits (P14.1).
func TestCheck(t *testing.T) {
	l := ordinary()
	long := strings.Repeat("a", api.MaxName)
	for _, c := range ordinary() {
		l = append(l,
			changed(c, func(c *api.Record) { c.Facts = nil }), changed(c, func(c *api.Record) { c.Facts = []api.Fact{} }), changed(c, func(c *api.Record) { c.Facts = c.Facts[3:4] }), changed(c, func(c *api.Record) { c.Facts = manyFacts(api.MaxFacts, 2) }),
			changed(c, func(c *api.Record) { c.Revision, c.Environment = 0, 0 }), changed(c, func(c *api.Record) { c.Revision = 1<<31 - 1 }), changed(c, func(c *api.Record) { c.Environment = 1<<31 - 1 }), changed(c, func(c *api.Record) { c.Random = true }),
			changed(c, func(c *api.Record) { c.Test = api.Name{Package: long, Test: "a_9" + long[3:]} }), changed(c, func(c *api.Record) { c.Result = failed }), changed(c, func(c *api.Record) { c.Result = api.Result{Kind: api.Broken, Error: api.ErrSteps} }), changed(c, func(c *api.Record) { c.Result.Value = -api.MaxValue }),
		)
	}
	for _, c := range l {
		before := copyOf(c)
		s := of("x", "", "y")
		if e := record.Check(s, c); e != api.OK || checkOf(c, 3) != api.OK || !equal(c, before) || !slices.Equal(s.Texts, []string{"x", "", "y"}) {
			t.Errorf("Check of %s: error %d", brief(c), e)
		}
	}
	if e := record.Check(full(api.MaxTexts), base(1, facts("gen g 0, data a 4095"))); e != api.OK {
		t.Errorf("Check with the greatest store: error %d", e)
	}
	if e := record.Check(api.Store{}, base(1, nil)); e != api.OK {
		t.Errorf("Check without texts: error %d", e)
	}
}

// TestKeysOfLevels has good and bad keys of each kind, at each level, alone and behind another one (P14.1).
func TestKeysOfLevels(t *testing.T) {
	names := []string{"", "p", "P", "9", "a/b", "a.dat", "a/", "a b", strings.Repeat("a", 24), strings.Repeat("a", 25), strings.Repeat("a/", 7) + "a", strings.Repeat("a/", 8) + "a", strings.Repeat("aaaaaaaaa/", 7) + strings.Repeat("a", 10), strings.Repeat("aaaaaaaaa/", 7) + strings.Repeat("a", 11), "é", "a\x00"}
	first := api.Fact{Key: key("gen 0")}
	right := map[int]int{}
	for kind := -1; kind < 10; kind++ {
		for _, a := range names {
			for _, b := range names {
				f := api.Fact{Key: api.Key{Kind: kind, A: a, B: b}}
				for level := -1; level < 6; level++ {
					for _, l := range [][]api.Fact{{f}, {first, f}, {f, first}} {
						c := base(level, l)
						if e := record.Check(of("x"), c); e != checkOf(c, 1) {
							t.Errorf("Check of %s: error %d instead of %d", brief(c), e, checkOf(c, 1))
						} else if e == api.OK {
							right[level]++
						}
					}
				}
			}
		}
	}
	if len(right) != 3 || right[1] <= right[2] || right[2] <= right[3] || right[3] == 0 {
		t.Errorf("so many records are right at each level: %v", right)
	}
}

// TestOrder has all lists of up to three of some keys (P14.1).
func TestOrder(t *testing.T) {
	some := keys("func p f,func p g,func q f,test p f,data f,env p,files p")
	right := 0
	for _, a := range some {
		for _, b := range some {
			for _, d := range some {
				c := base(1, []api.Fact{{Key: a}, {Key: b}, {Key: d}})
				want := api.ErrInvalid
				if slices.Index(some, a) < slices.Index(some, b) && slices.Index(some, b) < slices.Index(some, d) {
					want = api.OK
					right++
				}
				if e := record.Check(of("x"), c); e != want {
					t.Errorf("Check of %s: error %d", brief(c), e)
				}
			}
		}
	}
	if right != 35 {
		t.Errorf("%d lists are right", right)
	}
}

// fault is a change that makes a good record wrong.
type fault struct {
	name   string
	e      api.Errno
	change func(c *api.Record)
}

// faults returns changes for each error of records, those of facts in the one with an index; there are so many texts.
func faults(at, texts int) []fault {
	l := []fault{
		{"no package", api.ErrInvalid, func(c *api.Record) { c.Test.Package = "" }}, {"a bad package", api.ErrInvalid, func(c *api.Record) { c.Test.Package = "p.q" }}, {"no test", api.ErrInvalid, func(c *api.Record) { c.Test.Test = "" }}, {"a long test", api.ErrInvalid, func(c *api.Record) { c.Test.Test = strings.Repeat("a", 25) }},
		{"a negative revision", api.ErrInvalid, func(c *api.Record) { c.Revision = -1 }}, {"a great revision", api.ErrInvalid, func(c *api.Record) { c.Revision = 1 << 31 }}, {"the least environment", api.ErrInvalid, func(c *api.Record) { c.Environment = math.MinInt }}, {"a great environment", api.ErrInvalid, func(c *api.Record) { c.Environment = math.MaxInt }},
		{"no level", api.ErrInvalid, func(c *api.Record) { c.Level = 0 }}, {"a great level", api.ErrInvalid, func(c *api.Record) { c.Level = 4 }}, {"no result", api.ErrInvalid, func(c *api.Record) { c.Result = api.Result{} }}, {"passed with 0", api.ErrInvalid, func(c *api.Record) { c.Result = api.Result{Kind: api.Passed} }}, {"broken with a value", api.ErrInvalid, func(c *api.Record) { c.Result = api.Result{Kind: api.Broken, Value: 1, Error: api.ErrEnv} }},
		{"no key", api.ErrInvalid, func(c *api.Record) { c.Facts[at].Key = api.Key{} }}, {"a bad key", api.ErrInvalid, func(c *api.Record) { c.Facts[at].Key.A += "/" }},
		{"too many facts", api.ErrLimit, func(c *api.Record) { c.Facts = append(c.Facts[:at+1:at+1], manyFacts(api.MaxFacts-at, 0)...) }},
		{"a negative content", api.ErrContent, func(c *api.Record) { c.Facts[at].Content = -1 }}, {"no content of the store", api.ErrContent, func(c *api.Record) { c.Facts[at].Content = texts }}, {"the greatest content", api.ErrContent, func(c *api.Record) { c.Facts[at].Content = math.MaxInt }},
	}
	if at > 0 {
		l = append(l,
			fault{"a key twice", api.ErrInvalid, func(c *api.Record) { c.Facts[at].Key = c.Facts[at-1].Key }},
			fault{"a key behind a greater one", api.ErrInvalid, func(c *api.Record) { c.Facts[at-1].Key = key("tree zz") }},
		)
	}
	return l
}

// firstOf returns the error that comes first.
func firstOf(l ...api.Errno) api.Errno {
	for _, e := range []api.Errno{api.ErrTwice, api.ErrInvalid, api.ErrLimit, api.ErrContent} {
		if slices.Contains(l, e) {
			return e
		}
	}
	return api.OK
}

// short returns a record that has facts of all kinds of a level, without one that is behind those of manyFacts.
func short(c api.Record) api.Record {
	return changed(c, func(c *api.Record) {
		c.Facts = slices.DeleteFunc(c.Facts, func(f api.Fact) bool { return f.Key.Kind > api.KeyData })
	})
}

// TestErrors has each error in each fact, and with a second one (P14.1).
func TestErrors(t *testing.T) {
	s := of("x", "", "y")
	for _, c := range ordinary() {
		c = short(c)
		for at := range c.Facts {
			for _, one := range faults(at, 3) {
				for _, other := range append(faults(at, 3), fault{"nothing", api.OK, func(*api.Record) {}}) {
					want := firstOf(one.e, other.e)
					wrong := changed(c, one.change, other.change)
					if e := record.Check(s, wrong); e != want || checkOf(wrong, 3) != want {
						t.Errorf("Check of %s in fact %d, and %s: error %d instead of %d", one.name, at, other.name, e, want)
					}
				}
			}
		}
	}
	all := changed(base(1, nil), func(c *api.Record) { c.Facts = manyFacts(api.MaxFacts+1, 5) })
	if e := record.Check(s, all); e != api.ErrLimit {
		t.Errorf("Check of too many facts without contents: error %d", e)
	}
	all.Facts[api.MaxFacts].Key.B = "b"
	if e := record.Check(s, all); e != api.ErrInvalid {
		t.Errorf("Check of too many facts, the last one bad: error %d", e)
	}
	all.Facts = all.Facts[:api.MaxFacts]
	if e := record.Check(s, all); e != api.ErrContent {
		t.Errorf("Check of as many facts as possible without contents: error %d", e)
	}
}

// wrongStores returns stores with each error.
func wrongStores() map[api.Errno]api.Store {
	return map[api.Errno]api.Store{api.ErrTwice: of("x", "y", "x"), api.ErrLimit: full(api.MaxTexts + 1)}
}

// TestErrorsOfStores has the errors of a store before those of a record (P14.1, P14.4).
func TestErrorsOfStores(t *testing.T) {
	for want, s := range wrongStores() {
		for _, c := range []api.Record{{}, base(1, nil), base(1, facts("gen g 0")), base(1, facts("gen g -1")), base(0, manyFacts(2000, 0))} {
			if e := record.Check(s, c); e != want {
				t.Errorf("Check of %s: error %d instead of %d", brief(c), e, want)
			}
			if i, e := record.Holds(s, api.Revision{}, api.Environment{}, c); i != 0 || e != want {
				t.Errorf("Holds of %s: %d, error %d instead of %d", brief(c), i, e, want)
			}
		}
	}
}

// TestKeys checks that the keys are those of the facts, and have memory of their own (P14.3).
func TestKeys(t *testing.T) {
	for _, c := range append(ordinary(), base(1, nil), base(1, manyFacts(api.MaxFacts, 3)), api.Record{Facts: facts("env os 9")}) {
		var want []api.Key
		for _, f := range c.Facts {
			want = append(want, f.Key)
		}
		before := copyOf(c)
		got, again := record.Keys(c), record.Keys(c)
		if !slices.Equal(got, want) || !equal(c, before) {
			t.Errorf("Keys of %s: %.300s", brief(c), fmt.Sprint(got))
		}
		if share(stringsOfKeys(got[:min(len(got), 9)]), append(stringsOf(c), stringsOfKeys(again)...)) {
			t.Errorf("Keys of %s shares memory", brief(c))
		}
		clear(got)
		if !slices.Equal(again, want) {
			t.Errorf("Keys of %s shares memory with another result", brief(c))
		}
	}
	wrong := base(1, facts("data b 1, func p f 0, data a 1, data b 0"))
	if got := record.Keys(wrong); !slices.Equal(got, keys("func p f,data a,data b")) { // R6
		t.Errorf("Keys of facts that do not ascend: %v", got)
	}
}
