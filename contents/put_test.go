package contents_test

import (
	"fmt"
	"slices"
	"testing"

	"testgate/api"
	"testgate/contents"
)

// putOf returns what Put has to return for a store without errors.
func putOf(s api.Store, text string) (api.Store, int, api.Errno) {
	for n, has := range s.Texts {
		if has == text {
			return s, n, api.OK
		}
	}
	if len(s.Texts) == 4096 {
		return api.Store{}, 0, api.ErrLimit
	}
	return with(s, text), len(s.Texts), api.OK
}

// wantPut checks Put in a store without errors, and that Get and Find give back what was put.
func wantPut(t *testing.T, s api.Store, text string) api.Store {
	t.Helper()
	before := copyOf(s)
	out, n, e := contents.Put(s, text)
	want, wantNumber, wantError := putOf(s, text)
	if !equal(out, want) || n != wantNumber || e != wantError || !equal(s, before) {
		t.Errorf("Put of %.20q into %s: %s, %d, error %d", text, brief(before), brief(out), n, e)
	}
	if e != api.OK {
		return out
	}
	if got, e := contents.Get(out, n); got != text || e != api.OK {
		t.Errorf("Get after Put of %.20q into %s: %.20q, error %d", text, brief(s), got, e)
	}
	if got, found := contents.Find(out, text); got != n || !found {
		t.Errorf("Find after Put of %.20q into %s: %d, %t", text, brief(s), got, found)
	}
	return out
}

func TestPutExample(t *testing.T) {
	var s api.Store
	for i, text := range []string{"x", "y", "x"} {
		out, n, e := contents.Put(s, text)
		if want := []int{0, 1, 0}[i]; n != want || e != api.OK {
			t.Errorf("Put of %q: %d, error %d", text, n, e)
		}
		s = out
	}
	if !equal(s, of("x", "y")) {
		t.Errorf("the store is %s", brief(s))
	}
}

// TestPut has all texts in all short stores, and texts in the greatest ones (P13.2).
func TestPut(t *testing.T) {
	good, _ := stores(4)
	for _, s := range good {
		for _, text := range slices.Concat(someTexts, []string{"b", "aa", "a\x00\x00", "\x00"}) {
			wantPut(t, s, text)
		}
	}
	wantPut(t, api.Store{Texts: []string{}}, "a")
	for n := api.MaxTexts - 2; n <= api.MaxTexts; n++ {
		for _, text := range []string{"text 0", "text 4000", fmt.Sprint("text ", n-1), "new", ""} {
			wantPut(t, full(n), text)
		}
	}
}

// TestNumbersStay puts many texts into one store: no number changes, and equal numbers mean equal texts (P13.5).
func TestNumbersStay(t *testing.T) {
	d := dice(1)
	for range 20 {
		var s api.Store
		numbers := map[string]int{}
		texts := map[int]string{}
		again := 0
		for range 120 {
			text := fmt.Sprint(d.roll(60))
			out, n, e := contents.Put(s, text)
			if e != api.OK {
				t.Fatalf("Put of %q into %s: error %d", text, brief(s), e)
			}
			number, known := numbers[text]
			if other, taken := texts[n]; known && n != number || taken && other != text || known != taken {
				t.Fatalf("Put of %q into %s: %d", text, brief(s), n)
			}
			if known {
				again++
			}
			numbers[text], texts[n], s = n, text, out
			for text, n := range numbers {
				if got, e := contents.Get(s, n); got != text || e != api.OK {
					t.Fatalf("%d is %q, error %d, instead of %q", n, got, e, text)
				}
			}
		}
		if again < 30 || len(numbers) < 30 {
			t.Errorf("%d texts were put, and %d of them again", len(numbers), again)
		}
	}
}

// TestPutSharesNothing puts texts into a store with room behind its texts.
func TestPutSharesNothing(t *testing.T) {
	s := api.Store{Texts: append(make([]string, 0, 9), "first", "second")}
	behind := s.Texts[:cap(s.Texts)]
	for _, text := range []string{"third", "second"} {
		one, _, _ := contents.Put(s, text)
		two, _, _ := contents.Put(s, text)
		separate(t, "Put", one, []api.Store{s, two}, text)
		separate(t, "Put again", two, []api.Store{s}, text)
	}
	if !slices.Equal(behind[:3], []string{"first", "second", ""}) {
		t.Errorf("Put writes behind the texts: %q", behind)
	}
}
