package natural_test

import (
	"math"
	"math/big"
	"slices"
	"testing"

	"testgate/api"
	"testgate/natural"
)

const top = math.MaxUint32

// limbs returns n limbs of the same value.
func limbs(n int, limb uint32) api.Nat {
	return slices.Repeat(api.Nat{limb}, n)
}

// withTop returns n limbs that are 0 except for the last one.
func withTop(n int, last uint32) api.Nat {
	a := make(api.Nat, n)
	a[n-1] = last
	return a
}

// malformed are numbers that are not well-formed: with a zero at the end, with too many limbs, or both.
func malformed() []api.Nat {
	return []api.Nat{
		{0}, {1, 0}, {0, 0}, {top, top, 0},
		append(limbs(api.MaxLimbs-1, 1), 0),
		limbs(api.MaxLimbs+1, 1), append(limbs(api.MaxLimbs, 1), 0), limbs(2*api.MaxLimbs+1, top), limbs(1<<16, 1),
	}
}

// small are well-formed numbers of few limbs: all that have at most two limbs of a list of edges, and some longer ones.
func small() []api.Nat {
	edges := []uint32{0, 1, 2, 3, 10, 999_999_999, 1_000_000_000, 1<<31 - 1, 1 << 31, 1<<31 + 1, top - 1, top}
	list := []api.Nat{nil}
	for _, high := range edges[1:] {
		list = append(list, api.Nat{high})
		for _, low := range edges {
			list = append(list, api.Nat{low, high})
		}
	}
	return append(list,
		api.Nat{0, 0, 1}, api.Nat{1, 0, 1}, api.Nat{top, top, top}, api.Nat{0, 0, 1 << 31}, api.Nat{0, top, 1 << 31}, api.Nat{1, 0, 1 << 31},
		api.Nat{0, 0, 1 << 31, 1<<31 - 1}, api.Nat{0, top - 1, 1 << 31}, api.Nat{3, 0, 1 << 31}, api.Nat{1, 0, 1 << 29}, api.Nat{top, 0, top, 0, top})
}

// large are well-formed numbers with up to MaxLimbs limbs.
func large() []api.Nat {
	mixed := make(api.Nat, api.MaxLimbs)
	for i, seed := 0, uint32(1); i < len(mixed); i++ {
		seed = seed*1664525 + 1013904223
		mixed[i] = seed | 1
	}
	return []api.Nat{
		limbs(7, top), limbs(63, top), limbs(64, top), limbs(65, top), limbs(127, top), limbs(128, top),
		withTop(64, 1), withTop(65, 1), withTop(127, 1<<31), withTop(128, 1), withTop(128, 1<<31), withTop(128, top),
		mixed, mixed[:128-1], mixed[64:], mixed[65:], mixed[100:], mixed[30:60],
	}
}

// wide returns every large number and some small ones.
func wide() []api.Nat {
	return append(large(), nil, api.Nat{1}, api.Nat{2}, api.Nat{top}, api.Nat{0, 1}, api.Nat{top, top}, api.Nat{0, 0, 1 << 31})
}

// toBig returns the value of limbs, which need not be well-formed.
func toBig(a api.Nat) *big.Int {
	value := new(big.Int)
	for _, limb := range slices.Backward(a) {
		value.Lsh(value, 32)
		value.Add(value, big.NewInt(int64(limb)))
	}
	return value
}

// fromBig returns the limbs of a value.
func fromBig(value *big.Int) api.Nat {
	var a api.Nat
	for rest := new(big.Int).Set(value); rest.Sign() > 0; rest.Rsh(rest, 32) {
		a = append(a, uint32(new(big.Int).And(rest, big.NewInt(top)).Uint64()))
	}
	return a
}

// short returns the first limbs of a, for messages.
func short(a api.Nat) []uint32 {
	return a[:min(len(a), 6)]
}

func TestOf(t *testing.T) {
	for _, c := range []struct {
		n    uint64
		want api.Nat
	}{
		{0, nil}, {1, api.Nat{1}}, {top, api.Nat{top}}, {1 << 32, api.Nat{0, 1}}, {1<<32 + 7, api.Nat{7, 1}},
		{1 << 63, api.Nat{0, 1 << 31}}, {math.MaxUint64, api.Nat{top, top}},
	} {
		if got := natural.Of(c.n); !slices.Equal(got, c.want) {
			t.Errorf("Of(%d) is %v", c.n, got)
		}
	}
}

func TestCheck(t *testing.T) {
	for _, a := range append(append(small(), wide()...), api.Nat{}, withTop(api.MaxLimbs, 1)) {
		if !natural.Check(a) {
			t.Errorf("Check rejects %v (%d limbs)", short(a), len(a))
		}
	}
	for _, a := range malformed() {
		if natural.Check(a) {
			t.Errorf("Check accepts %v (%d limbs)", short(a), len(a))
		}
	}
}

func TestUint(t *testing.T) {
	for _, n := range []uint64{0, 1, top - 1, top, 1 << 32, 1<<32 + 1, 5<<32 + 3, 1 << 63, math.MaxUint64} {
		if got, ok := natural.Uint(natural.Of(n)); got != n || !ok {
			t.Errorf("Uint of %d is %d, %v", n, got, ok)
		}
	}
	tooLarge := []api.Nat{{0, 0, 1}, {1, 2, 3}, withTop(api.MaxLimbs, 1), limbs(api.MaxLimbs, top)}
	for _, a := range append(malformed(), tooLarge...) {
		if got, ok := natural.Uint(a); got != 0 || ok {
			t.Errorf("Uint of %v (%d limbs) is %d, %v", short(a), len(a), got, ok)
		}
	}
}

func TestBits(t *testing.T) {
	for _, a := range append(small(), wide()...) {
		if got, want := natural.Bits(a), toBig(a).BitLen(); got != want {
			t.Errorf("Bits of %v (%d limbs) is %d, not %d", short(a), len(a), got, want)
		}
	}
	for n := range 64 {
		if got := natural.Bits(natural.Of(1 << n)); got != n+1 {
			t.Errorf("Bits of 2^%d is %d", n, got)
		}
	}
	for _, a := range malformed() {
		if got := natural.Bits(a); got != 0 {
			t.Errorf("Bits of %v (%d limbs) is %d", short(a), len(a), got)
		}
	}
}

func TestCompare(t *testing.T) {
	compareAll := func(list []api.Nat) {
		for _, a := range list {
			for _, b := range list {
				if got, want := natural.Compare(a, b), toBig(a).Cmp(toBig(b)); got != want {
					t.Errorf("Compare of %v and %v is %d, not %d", short(a), short(b), got, want)
				}
			}
		}
	}
	compareAll(small())
	compareAll(wide())
	for _, a := range malformed() {
		for _, b := range append(malformed(), nil, api.Nat{1}, api.Nat{top, top}, limbs(api.MaxLimbs, top)) {
			if natural.Compare(a, b) != 0 || natural.Compare(b, a) != 0 {
				t.Errorf("Compare of %v (%d limbs) and %v (%d limbs) is not 0", short(a), len(a), short(b), len(b))
			}
		}
	}
}
