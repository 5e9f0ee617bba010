package contents_test

import (
	"fmt"
	"math"
	"slices"
	"strings"
	"testing"

	"testgate/api"
	"testgate/contents"
)

// TestCheck has all short lists of texts, and the limits (P13.1).
func TestCheck(t *testing.T) {
	good, bad := stores(4)
	if len(good) != 1+5+5*4+5*4*3+5*4*3*2 || len(bad) != 5*5+5*5*5+5*5*5*5-5*4-5*4*3-5*4*3*2 {
		t.Errorf("%d stores are right, and %d are not", len(good), len(bad))
	}
	for _, s := range slices.Concat(good, bad) {
		if e := contents.Check(s); e != checkOf(s) {
			t.Errorf("Check of %s: error %d", brief(s), e)
		}
	}
	for _, s := range []api.Store{{}, {Texts: []string{}}, full(api.MaxTexts - 1), full(api.MaxTexts), of(strings.Repeat("x", api.MaxFrame+1))} {
		if e := contents.Check(s); e != api.OK {
			t.Errorf("Check of %s: error %d", brief(s), e)
		}
	}
	for _, c := range wrongStores() {
		before := copyOf(c.s)
		if e := contents.Check(c.s); e != c.e || !equal(c.s, before) {
			t.Errorf("Check, %s: error %d", c.name, e)
		}
	}
}

// TestErrorsOfStores checks that each function returns the error of Check before another one, and nothing else (P13.1).
func TestErrorsOfStores(t *testing.T) {
	long := strings.Repeat("x", api.MaxFrame+1)
	for _, c := range wrongStores() {
		for _, s := range []api.Store{c.s, with(of(long), c.s.Texts...)} {
			e := checkOf(s)
			before := copyOf(s)
			for _, text := range []string{s.Texts[0], s.Texts[1], "new"} {
				if n, found := contents.Find(s, text); n != 0 || found {
					t.Errorf("Find, %s: %d, %t", c.name, n, found)
				}
				if out, n, got := contents.Put(s, text); len(out.Texts) != 0 || n != 0 || got != e {
					t.Errorf("Put, %s: %s, %d, error %d", c.name, brief(out), n, got)
				}
			}
			for _, n := range []int{math.MinInt, -1, 0, 1, len(s.Texts), math.MaxInt} {
				if text, got := contents.Get(s, n); text != "" || got != e {
					t.Errorf("Get, %s: %.20q, error %d", c.name, text, got)
				}
				if out, l, got := contents.Keep(s, []int{0, n}); len(out.Texts) != 0 || len(l) != 0 || got != e {
					t.Errorf("Keep, %s: %s, %v, error %d", c.name, brief(out), l, got)
				}
			}
			if l, got := contents.Encode(s); len(l) != 0 || got != e {
				t.Errorf("Encode, %s: %d bytes, error %d", c.name, len(l), got)
			}
			if !equal(s, before) {
				t.Errorf("%s: the store was changed", c.name)
			}
		}
	}
}

// TestFindAndGet has all texts and many numbers in all short stores (P13.2).
func TestFindAndGet(t *testing.T) {
	good, _ := stores(4)
	for _, s := range good {
		before := copyOf(s)
		for _, text := range slices.Concat(someTexts, []string{"b", "aa", "a\x00\x00", "\x00", " a", "á"}) {
			wantFind(t, s, text)
		}
		for n := -3; n < len(s.Texts)+3; n++ {
			wantGet(t, s, n)
		}
		for _, n := range []int{math.MinInt, math.MinInt + 1, -1 << 32, 1 << 32, 1<<32 + 1, math.MaxInt} {
			wantGet(t, s, n)
		}
		if !equal(s, before) {
			t.Errorf("Find or Get changes %s", brief(before))
		}
	}
}

// TestFindAndGetInFullStores has all texts of the greatest store, and of one that has a long text.
func TestFindAndGetInFullStores(t *testing.T) {
	s := full(api.MaxTexts)
	for _, n := range []int{-1, 0, 1, 2, 2047, api.MaxTexts - 2, api.MaxTexts - 1, api.MaxTexts, api.MaxTexts + 1} {
		wantGet(t, s, n)
		wantFind(t, s, fmt.Sprint("text ", n))
	}
	long := strings.Repeat("x", api.MaxFrame+1)
	s = of(long[1:], long)
	for n, text := range s.Texts {
		wantGet(t, s, n)
		wantFind(t, s, text)
	}
	wantFind(t, s, long[2:])
}

// wantFind checks Find in a store without errors.
func wantFind(t *testing.T, s api.Store, text string) {
	t.Helper()
	want := slices.Index(s.Texts, text)
	if n, found := contents.Find(s, text); n != max(want, 0) || found != (want >= 0) {
		t.Errorf("Find of %.20q in %s: %d, %t", text, brief(s), n, found)
	}
}

// wantGet checks Get in a store without errors.
func wantGet(t *testing.T, s api.Store, n int) {
	t.Helper()
	want, wantError := "", api.ErrContent
	for i, text := range s.Texts {
		if i == n {
			want, wantError = text, api.OK
		}
	}
	if text, e := contents.Get(s, n); text != want || e != wantError {
		t.Errorf("Get of %d in %s: %.20q, error %d", n, brief(s), text, e)
	}
}

// TestGetIsACopy checks that a text has memory of its own, and is the same afterwards.
func TestGetIsACopy(t *testing.T) {
	s := of("first", "second")
	first, _ := contents.Get(s, 1)
	second, _ := contents.Get(s, 1)
	if first != "second" || shares(first, s.Texts[1]) || shares(first, second) {
		t.Errorf("Get gives %q, which shares memory", first)
	}
}
