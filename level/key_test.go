package level_test

import (
	"math"
	"regexp"
	"slices"
	"strings"
	"testing"

	"testgate/api"
	"testgate/level"
)

// What are levels, and what are none.
var (
	levels   = []int{api.LevelFunction, api.LevelFile, api.LevelPackage}
	noLevels = []int{math.MinInt, -1 << 32, -4, -3, -2, -1, 0, 4, 5, 6, 7, 8, 1 << 32, 1<<32 + 1, 1<<32 + 2, math.MaxInt}
)

// wanted returns the key that takes the place of a key, in the words of the document.
func wanted(k api.Key, at int) api.Key {
	switch {
	case at == api.LevelFile && (k.Kind == api.KeyFunc || k.Kind == api.KeyTest):
		return api.Key{Kind: api.KeyFiles, A: k.A}
	case at == api.LevelPackage && (k.Kind == api.KeyFunc || k.Kind == api.KeyTest || k.Kind == api.KeyFiles):
		return api.Key{Kind: api.KeyTree, A: k.A}
	}
	return k
}

// wantKey checks Key, and Keys of the key alone.
func wantKey(t *testing.T, k api.Key, at int, want api.Key, wantError api.Errno) {
	t.Helper()
	if got, e := level.Key(k, at); got != want || e != wantError {
		t.Errorf("Key of %v at the level %d is %v, error %d, instead of %v, error %d", k, at, got, e, want, wantError)
	}
	var l []api.Key
	if wantError == api.OK {
		l = []api.Key{want}
	}
	if got, e := level.Keys([]api.Key{k}, at); !slices.Equal(got, l) || e != wantError {
		t.Errorf("Keys of %v alone at the level %d is %v, error %d, instead of %v, error %d", k, at, got, e, l, wantError)
	}
}

// TestKinds has a key of each kind at each level (P12.1).
func TestKinds(t *testing.T) {
	for _, c := range []struct{ k, file, pkg string }{
		{"func p f", "files p", "tree p"},
		{"func p p", "files p", "tree p"},
		{"test q t", "files q", "tree q"},
		{"gen p", "gen p", "gen p"},
		{"gen p/a.src", "gen p/a.src", "gen p/a.src"},
		{"data p", "data p", "data p"},
		{"data p.src", "data p.src", "data p.src"},
		{"env p", "env p", "env p"},
		{"files p", "files p", "tree p"},
		{"tree p", "tree p", "tree p"},
	} {
		wantKey(t, key(c.k), api.LevelFunction, key(c.k), api.OK)
		wantKey(t, key(c.k), api.LevelFile, key(c.file), api.OK)
		wantKey(t, key(c.k), api.LevelPackage, key(c.pkg), api.OK)
		for _, at := range noLevels {
			wantKey(t, key(c.k), at, api.Key{}, api.ErrRange)
		}
	}
}

// someKeys returns keys of all kinds, and of others, with names and paths up to the limits and with what is no name: those that are well-formed, and the others.
func someKeys() (good, bad []api.Key) {
	name := regexp.MustCompile(`\A[a-z][a-z0-9_]{0,23}\z`)
	path := regexp.MustCompile(`\A[a-z0-9_.]{1,24}(/[a-z0-9_.]{1,24}){0,7}\z`)
	words := []string{"", "p", "q", "if", "a_1", "1", "P", "a.b", "a/b", "a b", "p\n", "\x00", strings.Repeat("a", 24), strings.Repeat("a", 25), "a/b/c/d/e/f/g/h", "a/b/c/d/e/f/g/h/i"}
	for _, kind := range []int{math.MinInt, -1, 0, 1, 2, 3, 4, 5, 6, 7, 8, 9, 1<<32 + 1, math.MaxInt} {
		for _, a := range words {
			for _, b := range words {
				k := api.Key{Kind: kind, A: a, B: b}
				ok := false
				switch kind {
				case 1, 2:
					ok = name.MatchString(a) && name.MatchString(b)
				case 3, 4:
					ok = path.MatchString(a) && b == ""
				case 5, 6, 7:
					ok = name.MatchString(a) && b == ""
				}
				if ok {
					good = append(good, k)
				} else {
					bad = append(bad, k)
				}
			}
		}
	}
	return good, bad
}

// TestKey has many keys at each level, and at what is no level: this error comes before that of the key (P12.1).
func TestKey(t *testing.T) {
	good, bad := someKeys()
	if len(good) != 2*5*5+2*9+3*5 || len(bad) < 3000 {
		t.Errorf("%d keys are well-formed, and %d are not", len(good), len(bad))
	}
	for _, at := range levels {
		for _, k := range good {
			wantKey(t, k, at, wanted(k, at), api.OK)
		}
		for _, k := range bad {
			wantKey(t, k, at, api.Key{}, api.ErrInvalid)
		}
	}
	for _, at := range noLevels {
		for _, k := range slices.Concat(good, bad) {
			wantKey(t, k, at, api.Key{}, api.ErrRange)
		}
	}
}

// TestKeyOfKey raises keys twice: they are then as at the coarser one of the two levels (P12.1).
func TestKeyOfKey(t *testing.T) {
	good, _ := someKeys()
	for _, first := range levels {
		for _, second := range levels {
			for _, k := range good {
				between, _ := level.Key(k, first)
				wantKey(t, between, second, wanted(k, max(first, second)), api.OK)
			}
		}
	}
}

// TestKeys has lists of some keys in any order: a set has what takes their place, each once (P12.1).
func TestKeys(t *testing.T) {
	d := dice(1)
	good, _ := someKeys()
	joined := map[int]int{}
	for n := range 3000 {
		at := levels[n%len(levels)]
		var l, want []api.Key
		for range d.roll(14) {
			l = append(l, good[d.roll(len(good))])
		}
		for _, k := range l {
			if k = wanted(k, at); !slices.Contains(want, k) {
				want = append(want, k)
			} else {
				joined[at]++
			}
		}
		slices.SortFunc(want, func(a, b api.Key) int { return strings.Compare(written(a), written(b)) })
		before := slices.Clone(l)
		got, e := level.Keys(l, at)
		if e != api.OK || !slices.Equal(got, want) || !slices.Equal(l, before) {
			t.Fatalf("Keys of %v at the level %d is %v, error %d, instead of %v, and the list is %v", before, at, got, e, want, l)
		}
		for i := range got {
			got[i].Kind = 99
		}
		if !slices.Equal(l, before) {
			t.Fatalf("Keys of %v shares memory with its argument", before)
		}
	}
	if joined[1] < 300 || joined[2] < joined[1]+1000 || joined[3] < joined[2]+100 {
		t.Errorf("of the keys at each level, so many were there already: %v", joined)
	}
}

// written returns a text for each key that is well-formed, so that texts are ordered like keys.
func written(k api.Key) string {
	return string(rune('0'+k.Kind)) + k.A + "\x00" + k.B
}

// TestKeysErrors has a key that is not well-formed in each place of a list, and lists without keys (P12.1).
func TestKeysErrors(t *testing.T) {
	_, bad := someKeys()
	for i := 0; i < len(bad); i += 7 {
		for at := range 4 {
			l := []api.Key{key("func p f"), key("tree p"), key("env p")}
			l = slices.Insert(l, at, bad[i])
			before := slices.Clone(l)
			for _, lv := range levels {
				if got, e := level.Keys(l, lv); len(got) != 0 || e != api.ErrInvalid {
					t.Errorf("Keys of %v at the level %d is %v, error %d", l, lv, got, e)
				}
			}
			if got, e := level.Keys(l, 0); len(got) != 0 || e != api.ErrRange {
				t.Errorf("Keys of %v at no level is %v, error %d", l, got, e)
			}
			if !slices.Equal(l, before) {
				t.Fatalf("Keys changed %v to %v", before, l)
			}
		}
	}
	for _, none := range [][]api.Key{nil, {}} {
		for _, lv := range levels {
			if got, e := level.Keys(none, lv); len(got) != 0 || e != api.OK {
				t.Errorf("Keys of no keys at the level %d is %v, error %d", lv, got, e)
			}
		}
		for _, lv := range noLevels {
			if got, e := level.Keys(none, lv); len(got) != 0 || e != api.ErrRange {
				t.Errorf("Keys of no keys at the level %d is %v, error %d", lv, got, e)
			}
		}
	}
}

// TestSharesNothing checks that the names of results have memory of their own.
func TestSharesNothing(t *testing.T) {
	p, f := strings.Clone("pack"), strings.Clone("name")
	var l []api.Key
	for kind := api.KeyFunc; kind <= api.KeyTree; kind++ {
		k := api.Key{Kind: kind, A: p}
		if kind <= api.KeyTest {
			k.B = f
		}
		l = append(l, k)
	}
	for _, at := range levels {
		results, e := level.Keys(l, at)
		if e != api.OK {
			t.Errorf("Keys of %v: error %d", l, e)
		}
		for _, k := range l {
			got, e := level.Key(k, at)
			if e != api.OK {
				t.Errorf("Key of %v: error %d", k, e)
			}
			results = append(results, got)
		}
		given := []string{p, f}
		for i, k := range results {
			for _, s := range given {
				if overlap(k.A, s) || overlap(k.B, s) {
					t.Errorf("at the level %d, the result %d, %v, shares memory with %q", at, i, k, s)
				}
			}
			given = append(given, k.A, k.B)
		}
	}
}

// TestFiner has all pairs of levels and of what is none (P12.2).
func TestFiner(t *testing.T) {
	all := slices.Concat(levels, noLevels)
	found := 0
	for _, a := range all {
		for _, b := range all {
			want := a == 1 && b == 2 || a == 1 && b == 3 || a == 2 && b == 3
			if got := level.Finer(a, b); got != want {
				t.Errorf("Finer of %d and %d is %t", a, b, got)
			}
			if want {
				found++
			}
		}
	}
	if found != 3 {
		t.Errorf("%d pairs were tried of which one is finer", found)
	}
}
