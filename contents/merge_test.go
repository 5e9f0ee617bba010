package contents_test

import (
	"slices"
	"strings"
	"testing"

	"testgate/api"
	"testgate/contents"
)

// mergeOf returns what Merge has to return.
func mergeOf(a, b api.Store) (api.Store, []int, api.Errno) {
	for _, s := range []api.Store{a, b} {
		if e := checkOf(s); e != api.OK {
			return api.Store{}, nil, e
		}
	}
	out := copyOf(a)
	var numbers []int
	for _, text := range b.Texts {
		next, n, e := putOf(out, text)
		if e != api.OK {
			return api.Store{}, nil, e
		}
		out, numbers = next, append(numbers, n)
	}
	return out, numbers, api.OK
}

// wantMerge checks Merge, and returns its error.
func wantMerge(t *testing.T, a, b api.Store) api.Errno {
	t.Helper()
	first, second := copyOf(a), copyOf(b)
	out, l, e := contents.Merge(a, b)
	want, wantNumbers, wantError := mergeOf(a, b)
	if !equal(out, want) || !slices.Equal(l, wantNumbers) || e != wantError {
		t.Errorf("Merge of %s and %s: %s, numbers %.40v, error %d", brief(first), brief(second), brief(out), l, e)
	}
	if !equal(a, first) || !equal(b, second) {
		t.Errorf("Merge changes %s or %s", brief(first), brief(second))
	}
	return e
}

// TestMerge has all pairs of short stores, also of those with errors (P13.2).
func TestMerge(t *testing.T) {
	good, bad := stores(3)
	bad = slices.DeleteFunc(bad, func(s api.Store) bool { return len(s.Texts) > 2 })
	all := slices.Concat(good, bad)
	for _, a := range all {
		for _, b := range all {
			wantMerge(t, a, b)
		}
	}
	wantMerge(t, api.Store{Texts: []string{}}, api.Store{Texts: []string{}})
}

// TestMergeInParts checks that it is the same to merge texts at once and one by one, and that numbers lead to the same texts (P13.5).
func TestMergeInParts(t *testing.T) {
	d := dice(2)
	joined, added := 0, 0
	for range 500 {
		a, b := d.store(20), d.store(20)
		out, numbers, e := contents.Merge(a, b)
		if e != api.OK || len(numbers) != len(b.Texts) {
			t.Fatalf("Merge of %s and %s: numbers %v, error %d", brief(a), brief(b), numbers, e)
		}
		step := a
		for i, text := range b.Texts {
			next, n, e := contents.Put(step, text)
			if e != api.OK || n != numbers[i] {
				t.Errorf("Put of %q into %s: %d, error %d, instead of %d", text, brief(step), n, e, numbers[i])
			}
			if got, e := contents.Get(out, numbers[i]); got != text || e != api.OK {
				t.Errorf("%q becomes %q, error %d", text, got, e)
			}
			step = next
		}
		if !equal(step, out) || !slices.Equal(out.Texts[:len(a.Texts)], a.Texts) || contents.Check(out) != api.OK {
			t.Errorf("Merge of %s and %s: %s instead of %s", brief(a), brief(b), brief(out), brief(step))
		}
		sorted := slices.Sorted(slices.Values(numbers))
		if len(slices.Compact(sorted)) != len(numbers) {
			t.Errorf("Merge of %s and %s has a number twice: %v", brief(a), brief(b), numbers)
		}
		added += len(out.Texts) - len(a.Texts)
		joined += len(a.Texts) + len(b.Texts) - len(out.Texts)
	}
	if added < 1000 || joined < 500 {
		t.Errorf("%d texts were added, and %d were there", added, joined)
	}
}

// TestMergeWithItself checks that this changes nothing (P13.5).
func TestMergeWithItself(t *testing.T) {
	d := dice(3)
	good, _ := stores(4)
	for range 50 {
		good = append(good, d.store(50))
	}
	for _, s := range append(good, full(api.MaxTexts)) {
		out, l, e := contents.Merge(s, s)
		if !equal(out, s) || len(l) != len(s.Texts) || e != api.OK {
			t.Errorf("Merge of %s with itself: %s, error %d", brief(s), brief(out), e)
		}
		for i, n := range l {
			if n != i {
				t.Errorf("Merge of %s with itself: %d becomes %d", brief(s), i, n)
			}
		}
	}
}

// TestMergeLimits has results at the limit, and all errors of both stores (P13.2).
func TestMergeLimits(t *testing.T) {
	great := full(api.MaxTexts)
	back := copyOf(great)
	slices.Reverse(back.Texts)
	for _, c := range []struct {
		name string
		a, b api.Store
		e    api.Errno
	}{
		{"nothing into the greatest", great, of(), api.OK}, {"the greatest into nothing", of(), great, api.OK}, {"backwards", great, back, api.OK}, {"a part", great, of("text 9", "text 4095"), api.OK}, {"into a part", of("text 9", "text 4095"), great, api.OK},
		{"the last one", full(api.MaxTexts - 1), of("text 3", "new"), api.OK}, {"halves", full(api.MaxTexts / 2), of(great.Texts[api.MaxTexts/2:]...), api.OK}, {"all but one", of("text 0"), of(great.Texts[1:]...), api.OK},
		{"one into the greatest", great, of("new"), api.ErrLimit}, {"the empty text into the greatest", great, of(""), api.ErrLimit}, {"one behind others into the greatest", great, of("text 1", "text 0", "new"), api.ErrLimit}, {"one before others into the greatest", great, of("new", "text 1", "text 0"), api.ErrLimit},
		{"two", full(api.MaxTexts - 1), of("text 3", "new", "newer"), api.ErrLimit}, {"into one", of("new"), great, api.ErrLimit}, {"backwards, and one more", with(full(api.MaxTexts-1), "new"), back, api.ErrLimit},
	} {
		if e := wantMerge(t, c.a, c.b); e != c.e {
			t.Errorf("Merge, %s: error %d", c.name, e)
		}
	}
	for _, c := range wrongStores() {
		for _, s := range []api.Store{{}, of("a"), great, of("x", "x"), full(api.MaxTexts + 1)} {
			wantMerge(t, c.s, s)
			wantMerge(t, s, c.s)
		}
	}
}

// TestMergeSharesNothing merges stores with room behind their texts, and a store with itself.
func TestMergeSharesNothing(t *testing.T) {
	a := api.Store{Texts: append(make([]string, 0, 9), "first", "second")}
	b := api.Store{Texts: append(make([]string, 0, 9), strings.Clone("second"), "third")}
	first, numbers, _ := contents.Merge(a, b)
	second, others, _ := contents.Merge(a, b)
	separate(t, "Merge", first, []api.Store{a, b, second})
	numbers[0] = 9
	if !slices.Equal(others, []int{1, 2}) {
		t.Errorf("the numbers share memory: %v", others)
	}
	same, _, _ := contents.Merge(a, a)
	separate(t, "Merge of a store with itself", same, []api.Store{a})
	if a.Texts[:3][2] != "" || b.Texts[:3][2] != "" {
		t.Error("Merge writes behind the texts")
	}
}
