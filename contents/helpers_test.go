package contents_test

import (
	"fmt"
	"slices"
	"strings"
	"testing"
	"unsafe"

	"testgate/api"
)

// of returns a store of texts.
func of(l ...string) api.Store { return api.Store{Texts: l} }

// full returns a store of n texts: text 0, text 1, and so on.
func full(n int) api.Store {
	var s api.Store
	for i := range n {
		s.Texts = append(s.Texts, fmt.Sprint("text ", i))
	}
	return s
}

// with returns the texts of a store, and some behind them.
func with(s api.Store, texts ...string) api.Store {
	return api.Store{Texts: slices.Concat(s.Texts, texts)}
}

// copyOf returns a store that shares no memory with s.
func copyOf(s api.Store) (out api.Store) {
	for _, text := range s.Texts {
		out.Texts = append(out.Texts, strings.Clone(text))
	}
	return out
}

// equal compares stores; nil and no texts are the same.
func equal(a, b api.Store) bool { return slices.Equal(a.Texts, b.Texts) }

// brief returns a text of a store for messages.
func brief(s api.Store) string {
	return fmt.Sprintf("%d texts: %.20q", len(s.Texts), s.Texts[:min(len(s.Texts), 6)])
}

// checkOf returns what Check has to return.
func checkOf(s api.Store) api.Errno {
	if len(s.Texts) > 4096 {
		return api.ErrLimit
	}
	sorted := slices.Sorted(slices.Values(s.Texts))
	for i := 1; i < len(sorted); i++ {
		if sorted[i-1] == sorted[i] {
			return api.ErrTwice
		}
	}
	return api.OK
}

// someTexts are texts that differ, although some begin with others, look like others, or are no texts of people.
var someTexts = []string{"", "a", "A", "a\x00", "\xff"}

// lists returns all lists of up to so many of some items.
func lists[T any](items []T, most int) [][]T {
	all := [][]T{nil}
	for begin, end := 0, 1; most > 0; most-- {
		for _, l := range all[begin:end] {
			for _, item := range items {
				all = append(all, append(slices.Clone(l), item))
			}
		}
		begin, end = end, len(all)
	}
	return all
}

// stores returns the stores of all lists of up to so many texts: those that are right, and the others.
func stores(most int) (good, bad []api.Store) {
	for _, l := range lists(someTexts, most) {
		if checkOf(of(l...)) == api.OK {
			good = append(good, of(l...))
		} else {
			bad = append(bad, of(l...))
		}
	}
	return good, bad
}

// wrong is a store with an error.
type wrong struct {
	name string
	s    api.Store
	e    api.Errno
}

// wrongStores returns stores with each error, and with both.
func wrongStores() []wrong {
	return []wrong{
		{"twice", of("b", "a", "c", "a"), api.ErrTwice}, {"one behind itself", of("a", "a"), api.ErrTwice}, {"the empty text twice", of("", "x", ""), api.ErrTwice},
		{"the greatest one with a text twice", with(full(api.MaxTexts-1), "text 0"), api.ErrTwice}, {"the greatest one of one text", of(slices.Repeat([]string{"a"}, api.MaxTexts)...), api.ErrTwice},
		{"one too many", full(api.MaxTexts + 1), api.ErrLimit}, {"far too many", full(2*api.MaxTexts + 1), api.ErrLimit},
		{"too many, the last one twice", with(full(api.MaxTexts), "text 7"), api.ErrLimit}, {"too many, the first one twice", with(of("text 7"), full(api.MaxTexts).Texts...), api.ErrLimit}, {"too many of one text", of(slices.Repeat([]string{"a"}, api.MaxTexts+1)...), api.ErrLimit},
	}
}

// dice gives numbers that look random and are the same in every run.
type dice uint64

// roll returns a number from 0 to n - 1.
func (d *dice) roll(n int) int {
	*d = *d*6364136223846793005 + 1442695040888963407
	return int(uint64(*d)>>33) % n
}

// store returns a store of up to so many of the texts 0, 1, and so on, in any order.
func (d *dice) store(most int) (s api.Store) {
	for range d.roll(most + 1) {
		if text := fmt.Sprint(d.roll(2 * most)); !slices.Contains(s.Texts, text) {
			s.Texts = append(s.Texts, text)
		}
	}
	return s
}

// shares tells whether two strings have memory in common.
func shares(a, b string) bool {
	if a == "" || b == "" {
		return false
	}
	x, y := uintptr(unsafe.Pointer(unsafe.StringData(a))), uintptr(unsafe.Pointer(unsafe.StringData(b)))
	return x < y+uintptr(len(b)) && y < x+uintptr(len(a))
}

// separate checks that a store shares no memory with other ones and with texts.
func separate(t *testing.T, name string, s api.Store, others []api.Store, texts ...string) {
	t.Helper()
	for _, other := range others {
		texts = append(texts, other.Texts...)
	}
	for _, text := range s.Texts {
		for _, other := range texts {
			if shares(text, other) {
				t.Errorf("%s: the text %.20q shares memory with %.20q", name, text, other)
			}
		}
	}
	before := make([]api.Store, len(others))
	for i, other := range others {
		before[i] = copyOf(other)
	}
	all := s.Texts[:cap(s.Texts)]
	for i := range all {
		all[i] = "changed"
	}
	for i, other := range others {
		if !equal(other, before[i]) {
			t.Errorf("%s: the texts share memory with those of another store", name)
		}
	}
}
