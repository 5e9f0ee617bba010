package fact_test

import (
	"math"
	"regexp"
	"slices"
	"strings"
	"testing"

	"testgate/api"
	"testgate/fact"
)

// TestCheck compares Check with regular expressions on all pairs of names and paths, many of them at a limit.
func TestCheck(t *testing.T) {
	name := regexp.MustCompile(`\A[a-z][a-z0-9_]{0,23}\z`)
	path := regexp.MustCompile(`\A[a-z0-9_.]{1,24}(/[a-z0-9_.]{1,24}){0,7}\z`)
	words := []string{
		"", "p", "if", "a_1", "1", "_", "P", "aB", "a.b", "9.x", ".", "..", "a/b", "a/1/_", "a b", "a\n", "\na", "ä", "\x00", "a-b",
		strings.Repeat("a", 24), strings.Repeat("a", 25), "a" + strings.Repeat("9", 23), strings.Repeat("9", 24), strings.Repeat("a", 24) + "/a", "a/" + strings.Repeat("a", 25),
		"/", "/a", "a/", "a//b", "a/b/c/d/e/f/g/h", "a/b/c/d/e/f/g/h/i", strings.Repeat("a", 24) + strings.Repeat("/"+strings.Repeat("b", 24), 2) + "/aaaaa", strings.Repeat("a", 24) + strings.Repeat("/"+strings.Repeat("b", 24), 2) + "/aaaaaa",
	}
	seen := map[int]int{}
	for _, kind := range []int{-4, -1, 0, 1, 2, 3, 4, 5, 6, 7, 8, 9, 1 << 32, 1<<32 + 1, math.MinInt, math.MaxInt} {
		for _, a := range words {
			for _, b := range words {
				want := false
				switch kind {
				case 1, 2:
					want = name.MatchString(a) && name.MatchString(b)
				case 3, 4:
					want = path.MatchString(a) && len(a) <= 80 && b == ""
				case 5, 6, 7:
					want = name.MatchString(a) && b == ""
				}
				if got := fact.Check(api.Key{Kind: kind, A: a, B: b}); got != want {
					t.Errorf("Check of %d, %q, %q is %t", kind, a, b, got)
				}
				if want {
					seen[kind]++
				}
			}
		}
	}
	for kind, n := range map[int]int{api.KeyFunc: 25, api.KeyTest: 25, api.KeyGen: 17, api.KeyData: 17, api.KeyEnv: 5, api.KeyFiles: 5, api.KeyTree: 5} {
		if seen[kind] != n {
			t.Errorf("%d keys of the kind %d are well-formed instead of %d", seen[kind], kind, n)
		}
	}
}

// ascendingKeys returns keys in ascending order, most of them not well-formed.
func ascendingKeys() (l []api.Key) {
	words := []string{"", "\x00", ".", "/", "9", "A", "_", "a", "a\x00", "a.b", "a/b", "aa", "b", "\x7f", "\u00e9", "\uffff", "\U00010000", "\xff", "\xff\x00"}
	for _, kind := range []int{math.MinInt, -1, 0, 1, 2, 3, 7, 10, math.MaxInt} {
		for _, a := range words {
			for _, b := range words {
				l = append(l, api.Key{Kind: kind, A: a, B: b})
			}
		}
	}
	return l
}

func TestCompare(t *testing.T) {
	l := ascendingKeys()
	for i, a := range l {
		for k, b := range l {
			want := 0
			if i < k {
				want = -1
			} else if i > k {
				want = 1
			}
			if got := fact.Compare(a, b); got != want {
				t.Fatalf("Compare of %v and %v is %d instead of %d", a, b, got, want)
			}
		}
	}
}

// TestSet has lists of some keys in any order, also of those that are not well-formed.
func TestSet(t *testing.T) {
	d := dice(1)
	all := ascendingKeys()
	for range 2000 {
		var in [10]bool
		var pool, l, want []api.Key
		begin, step := d.roll(len(all)/len(in)), 1+d.roll(len(all)/len(in))
		for i := range in {
			pool = append(pool, all[begin+i*step])
		}
		for range d.roll(12) {
			i := d.roll(len(in))
			in[i] = true
			l = append(l, pool[i])
		}
		for i, is := range in {
			if is {
				want = append(want, pool[i])
			}
		}
		before := slices.Clone(l)
		got := fact.Set(l)
		if !slices.Equal(got, want) || !slices.Equal(l, before) {
			t.Fatalf("Set of %v is %v, and the list is %v", before, got, l)
		}
		if again := fact.Set(got); !slices.Equal(again, want) {
			t.Errorf("Set of %v is %v", got, again)
		}
		for i := range got {
			got[i].Kind = 99
		}
		if !slices.Equal(l, before) {
			t.Fatalf("Set of %v shares memory with its argument", before)
		}
	}
	if len(fact.Set(nil)) != 0 || len(fact.Set([]api.Key{})) != 0 {
		t.Error("Set of no keys has some")
	}
}

// TestSetSharesNothing checks that the names of a set have memory of their own.
func TestSetSharesNothing(t *testing.T) {
	a, b := strings.Clone("pack"), strings.Clone("name")
	l := []api.Key{{Kind: 2, A: a, B: b}, {Kind: 1, A: a, B: a}, {Kind: 2, A: a, B: b}, {Kind: 1, A: a, B: b}}
	given, got := []string{a, b}, []string{}
	for _, k := range fact.Set(l) {
		got = append(got, k.A, k.B)
	}
	if len(got) != 6 {
		t.Errorf("Set of %v has the names %q", l, got)
	}
	for i, s := range got {
		for _, other := range slices.Concat(given, got[:i]) {
			if overlap(s, other) {
				t.Errorf("%q, name number %d of a set, shares memory with %q", s, i, other)
			}
		}
	}
}
