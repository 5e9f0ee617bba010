package contents_test

import (
	"math"
	"slices"
	"testing"

	"testgate/api"
	"testgate/contents"
)

// keepOf returns what Keep has to return for a store without errors.
func keepOf(s api.Store, used []int) (out api.Store, numbers []int, e api.Errno) {
	for n, text := range s.Texts {
		if slices.Contains(used, n) {
			numbers = append(numbers, len(out.Texts))
			out.Texts = append(out.Texts, text)
		} else {
			numbers = append(numbers, -1)
		}
	}
	for _, n := range used {
		if n < 0 || n > len(s.Texts)-1 {
			return api.Store{}, nil, api.ErrContent
		}
	}
	return out, numbers, api.OK
}

// wantKeep checks Keep in a store without errors.
func wantKeep(t *testing.T, s api.Store, used []int) {
	t.Helper()
	before, given := copyOf(s), slices.Clone(used)
	out, l, e := contents.Keep(s, used)
	want, wantNumbers, wantError := keepOf(s, used)
	if !equal(out, want) || !slices.Equal(l, wantNumbers) || e != wantError {
		t.Errorf("Keep of %v of %s: %s, numbers %v, error %d", given, brief(before), brief(out), l, e)
	}
	if !equal(s, before) || !slices.Equal(used, given) {
		t.Errorf("Keep of %v of %s changes its arguments", given, brief(before))
	}
}

func TestKeepExample(t *testing.T) {
	s, l, e := contents.Keep(of("a", "b", "c", "d"), []int{3, 1, 3})
	if !equal(s, of("b", "d")) || !slices.Equal(l, []int{-1, 0, -1, 1}) || e != api.OK {
		t.Errorf("Keep: %s, numbers %v, error %d", brief(s), l, e)
	}
}

// TestKeep has all lists of up to four numbers in any order, with repetitions and with some that no text has (P13.3).
func TestKeep(t *testing.T) {
	for _, s := range []api.Store{{}, of(""), of("a"), of("b", "a"), of("b", "", "a"), of("\xff", "a\x00", "a", "")} {
		for _, used := range lists([]int{-1, 0, 1, 2, 3, 4}, 4) {
			wantKeep(t, s, used)
		}
	}
	wantKeep(t, of("a"), []int{})
}

// TestKeepWrongNumbers has a number that no text has in each place (P13.3).
func TestKeepWrongNumbers(t *testing.T) {
	for _, s := range []api.Store{{}, of("a", "b", "c"), full(api.MaxTexts)} {
		all := make([]int, len(s.Texts))
		for n := range all {
			all[n] = n
		}
		for _, n := range []int{math.MinInt, -1 << 32, -1, len(s.Texts), len(s.Texts) + 1, 1 << 32, math.MaxInt} {
			wantKeep(t, s, []int{n})
			for _, at := range []int{0, len(all) / 2, len(all)} {
				wantKeep(t, s, slices.Insert(slices.Clone(all), at, n))
			}
		}
	}
}

// TestKeepOfMany keeps some, all and none of many texts: what is kept has the same texts with the new numbers (P13.3, P13.5).
func TestKeepOfMany(t *testing.T) {
	d := dice(4)
	s := full(api.MaxTexts)
	for _, share := range []int{0, 1, 10, 50, 100} {
		var used []int
		for range api.MaxTexts * share / 50 {
			used = append(used, d.roll(api.MaxTexts))
		}
		if share == 100 {
			used = append(used, d.roll(api.MaxTexts), api.MaxTexts-1, 0)
		}
		wantKeep(t, s, used)
		out, numbers, _ := contents.Keep(s, used)
		for _, n := range used {
			if numbers[n] < 0 || out.Texts[numbers[n]] != s.Texts[n] {
				t.Fatalf("Keep gives %d the number %d", n, numbers[n])
			}
		}
	}
	for range 200 {
		s := d.store(20)
		var used []int
		for range d.roll(20) {
			used = append(used, d.roll(len(s.Texts)+1)-d.roll(2))
		}
		wantKeep(t, s, used)
	}
	var all []int
	for n := range api.MaxTexts {
		all = append(all, api.MaxTexts-1-n)
	}
	if out, l, e := contents.Keep(s, all); !equal(out, s) || !slices.IsSorted(l) || l[0] != 0 || e != api.OK {
		t.Errorf("Keep of all: %s, error %d", brief(out), e)
	}
}

func TestKeepSharesNothing(t *testing.T) {
	s := of("first", "second", "third")
	used := []int{2, 0}
	first, numbers, _ := contents.Keep(s, used)
	second, others, _ := contents.Keep(s, used)
	separate(t, "Keep", first, []api.Store{s, second})
	numbers[0], numbers[1] = 7, 8
	if !slices.Equal(used, []int{2, 0}) || !slices.Equal(others, []int{0, -1, 1}) {
		t.Errorf("the numbers share memory: %v and %v", used, others)
	}
	all, numbers, _ := contents.Keep(s, []int{0, 1, 2})
	separate(t, "Keep of all", all, []api.Store{s})
	if !slices.Equal(numbers, []int{0, 1, 2}) {
		t.Errorf("the numbers of all are %v", numbers)
	}
}
