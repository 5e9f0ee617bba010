package fraction_test

import (
	"math"
	"math/big"
	"slices"
	"testing"

	"testgate/api"
	"testgate/fraction"
)

// toBig returns the value of limbs, which need not be well-formed.
func toBig(a api.Nat) *big.Int {
	value := new(big.Int)
	for _, limb := range slices.Backward(a) {
		value.Or(value.Lsh(value, 32), big.NewInt(int64(limb)))
	}
	return value
}

// fromBig returns the limbs of a value.
func fromBig(value *big.Int) api.Nat {
	var a api.Nat
	for rest := new(big.Int).Set(value); rest.Sign() > 0; rest.Rsh(rest, 32) {
		a = append(a, uint32(new(big.Int).And(rest, big.NewInt(math.MaxUint32)).Uint64()))
	}
	return a
}

// toRat returns the value of a fraction whose denominator is not 0.
func toRat(a api.Frac) *big.Rat {
	return new(big.Rat).SetFrac(toBig(a.Num), toBig(a.Den))
}

// fromRat returns a value in lowest terms, however many limbs it has.
func fromRat(value *big.Rat) api.Frac {
	return api.Frac{Num: fromBig(value.Num()), Den: fromBig(value.Denom())}
}

// of returns num / den, computed by package big.
func of(num, den *big.Int) api.Frac {
	return fromRat(new(big.Rat).SetFrac(num, den))
}

// ints returns num / den, computed by package big.
func ints(num, den int64) api.Frac {
	return of(big.NewInt(num), big.NewInt(den))
}

// power returns base to the power of n, plus more.
func power(base, n, more int64) *big.Int {
	value := new(big.Int).Exp(big.NewInt(base), big.NewInt(n), nil)
	return value.Add(value, big.NewInt(more))
}

// product returns a * b.
func product(a, b *big.Int) *big.Int {
	return new(big.Int).Mul(a, b)
}

// full returns the greatest number with MaxLimbs limbs, plus more.
func full(more int64) *big.Int {
	return power(2, 32*api.MaxLimbs, more-1)
}

// one returns 1.
func one() *big.Int { return big.NewInt(1) }

// same reports whether two fractions are equal in all limbs.
func same(a, b api.Frac) bool {
	return slices.Equal(a.Num, b.Num) && slices.Equal(a.Den, b.Den)
}

// text returns what tells a fraction in a message: all of a short one, the beginning and the number of limbs of a long one.
func text(a api.Frac) string {
	num, den := toBig(a.Num).String(), toBig(a.Den).String()
	return num[:min(len(num), 20)] + "/" + den[:min(len(den), 20)] + " (" + big.NewInt(int64(len(a.Num))).String() + " and " + big.NewInt(int64(len(a.Den))).String() + " limbs)"
}

// small are all fractions with a small numerator and a small denominator, each value once.
func small() []api.Frac {
	var list []api.Frac
	for den := range int64(10) {
		for num := range int64(12) {
			if a := ints(num, den+1); toBig(a.Den).Int64() == den+1 {
				list = append(list, a)
			}
		}
	}
	return list
}

// wide are fractions of up to MaxLimbs limbs, many of whose numerators and denominators have common factors with others.
func wide() []api.Frac {
	numbers := []*big.Int{
		one(), big.NewInt(3), full(0), full(-1), power(2, 4095, 0), power(2, 4095, -1), power(2, 4095, 1), power(3, 2584, 0), power(6, 1584, 0), power(5, 1760, 7),
		power(2, 2048, 0), power(2, 2048, -1), power(2, 2049, -1), product(power(2, 1000, 0), power(3, 1900, 0)), product(power(3, 1900, 0), power(5, 400, 0)), power(7, 700, 1), power(10, 30, 0),
	}
	list := []api.Frac{ints(0, 1), ints(1, 1), ints(2, 3), ints(1, 6)}
	for _, num := range numbers {
		for _, den := range numbers {
			if num.Cmp(den) != 0 {
				list = append(list, of(num, den))
			}
		}
	}
	return list
}

// every returns each n-th element of a list.
func every(n int, list []api.Frac) []api.Frac {
	var some []api.Frac
	for i := 0; i < len(list); i += n {
		some = append(some, list[i])
	}
	return some
}

// malformed are fractions that are not well-formed.
func malformed() []api.Frac {
	long := slices.Repeat(api.Nat{1}, api.MaxLimbs+1)
	return []api.Frac{
		{}, {Num: api.Nat{1}}, {Num: api.Nat{}, Den: api.Nat{}}, {Num: fromBig(full(0))},
		{Den: api.Nat{2}}, {Num: api.Nat{2}, Den: api.Nat{2}}, {Num: api.Nat{2}, Den: api.Nat{4}}, {Num: api.Nat{0, 1}, Den: api.Nat{6}}, {Num: fromBig(full(0)), Den: fromBig(full(0))},
		{Num: api.Nat{0}, Den: api.Nat{1}}, {Num: api.Nat{1}, Den: api.Nat{0}}, {Num: api.Nat{1}, Den: api.Nat{2, 0}}, {Num: api.Nat{2, 0}, Den: api.Nat{3}}, {Num: api.Nat{0}, Den: api.Nat{0}},
		{Num: long, Den: api.Nat{1}}, {Num: api.Nat{1}, Den: long}, {Num: long},
	}
}

func TestMake(t *testing.T) {
	for _, list := range [][]api.Frac{small(), wide()} {
		for _, a := range list {
			if got, e := fraction.Make(a.Num, a.Den); !same(got, a) || e != api.OK {
				t.Errorf("Make of %s: %s, error %d", text(a), text(got), e)
			}
		}
	}
	for _, c := range []struct{ num, den, wantNum, wantDen *big.Int }{
		{big.NewInt(6), big.NewInt(4), big.NewInt(3), big.NewInt(2)}, {new(big.Int), big.NewInt(7), new(big.Int), one()}, {new(big.Int), full(0), new(big.Int), one()}, {full(0), full(0), one(), one()},
		{full(-1), power(2, 4095, 0), power(2, 4095, -1), power(2, 4094, 0)}, {power(6, 1584, 0), power(2, 4095, 0), power(3, 1584, 0), power(2, 2511, 0)}, {power(2, 4095, 0), big.NewInt(6), power(2, 4094, 0), big.NewInt(3)},
	} {
		want := api.Frac{Num: fromBig(c.wantNum), Den: fromBig(c.wantDen)}
		if got, e := fraction.Make(fromBig(c.num), fromBig(c.den)); !same(got, want) || e != api.OK {
			t.Errorf("Make of %.20s and %.20s: %s, error %d", c.num, c.den, text(got), e)
		}
	}
}

func TestMakeErrors(t *testing.T) {
	long := slices.Repeat(api.Nat{1}, api.MaxLimbs+1)
	for _, bad := range []api.Nat{{0}, {1, 0}, long} {
		for _, other := range []api.Nat{nil, {1}, {5, 0}, fromBig(full(0))} {
			if got, e := fraction.Make(bad, other); !same(got, api.Frac{}) || e != api.ErrInvalid {
				t.Errorf("Make of a bad numerator and %.20s: %s, error %d", toBig(other), text(got), e)
			}
			if got, e := fraction.Make(other, bad); !same(got, api.Frac{}) || e != api.ErrInvalid {
				t.Errorf("Make of %.20s and a bad denominator: %s, error %d", toBig(other), text(got), e)
			}
		}
	}
	for _, num := range []api.Nat{nil, {}, {1}, fromBig(full(0))} {
		for _, zero := range []api.Nat{nil, {}} {
			if got, e := fraction.Make(num, zero); !same(got, api.Frac{}) || e != api.ErrDivide {
				t.Errorf("Make of %.20s and 0: %s, error %d", toBig(num), text(got), e)
			}
		}
	}
}

func TestOf(t *testing.T) {
	for _, c := range []struct {
		num, den int
		want     api.Frac
		e        api.Errno
	}{
		{0, 1, api.Frac{Den: api.Nat{1}}, api.OK}, {0, 9, api.Frac{Den: api.Nat{1}}, api.OK}, {6, 4, api.Frac{Num: api.Nat{3}, Den: api.Nat{2}}, api.OK}, {5, 5, api.Frac{Num: api.Nat{1}, Den: api.Nat{1}}, api.OK},
		{1 << 33, 1 << 34, api.Frac{Num: api.Nat{1}, Den: api.Nat{2}}, api.OK}, {math.MaxInt, 1 << 62, api.Frac{Num: api.Nat{math.MaxUint32, math.MaxInt32}, Den: api.Nat{0, 1 << 30}}, api.OK},
		{0, 0, api.Frac{}, api.ErrDivide}, {1, 0, api.Frac{}, api.ErrDivide}, {math.MaxInt, 0, api.Frac{}, api.ErrDivide},
		{-1, 1, api.Frac{}, api.ErrNegative}, {1, -1, api.Frac{}, api.ErrNegative}, {-1, -1, api.Frac{}, api.ErrNegative}, {-1, 0, api.Frac{}, api.ErrNegative}, {0, -1, api.Frac{}, api.ErrNegative},
		{math.MinInt, 0, api.Frac{}, api.ErrNegative}, {0, math.MinInt, api.Frac{}, api.ErrNegative},
	} {
		if got, e := fraction.Of(c.num, c.den); !same(got, c.want) || e != c.e {
			t.Errorf("Of(%d, %d): %s, error %d", c.num, c.den, text(got), e)
		}
	}
}

func TestCheck(t *testing.T) {
	for _, a := range append(append(small(), wide()...), api.Frac{Num: api.Nat{}, Den: api.Nat{1}}) {
		if !fraction.Check(a) {
			t.Errorf("Check rejects %s", text(a))
		}
	}
	for _, a := range malformed() {
		if fraction.Check(a) {
			t.Errorf("Check accepts %s", text(a))
		}
	}
}

func TestCompare(t *testing.T) {
	for _, list := range [][]api.Frac{small(), every(9, wide())} {
		for i, a := range list {
			for _, b := range list[:i+1] {
				want := toRat(a).Cmp(toRat(b))
				if got := fraction.Compare(a, b); got != want {
					t.Errorf("Compare of %s and %s is %d, not %d", text(a), text(b), got, want)
				}
				if got := fraction.Compare(b, a); got != -want {
					t.Errorf("Compare of %s and %s is %d, not %d", text(b), text(a), got, -want)
				}
			}
		}
	}
	for _, a := range malformed() {
		for _, b := range append(malformed(), ints(0, 1), ints(1, 2), of(full(0), one())) {
			if fraction.Compare(a, b) != 0 || fraction.Compare(b, a) != 0 {
				t.Errorf("Compare of %s and %s is not 0", text(a), text(b))
			}
		}
	}
}

// Neighbours among the quotients of Fibonacci numbers differ only at the end of their continued fractions.
func TestCompareOfNeighbours(t *testing.T) {
	a, b, c := one(), one(), big.NewInt(2)
	for next := c; next.BitLen() <= 32*api.MaxLimbs; next = new(big.Int).Add(b, c) {
		a, b, c = b, c, next
	}
	x, y := of(a, b), of(b, c)
	want := toRat(x).Cmp(toRat(y))
	if len(y.Den) != api.MaxLimbs || fraction.Compare(x, y) != want || fraction.Compare(y, x) != -want || fraction.Compare(y, y) != 0 {
		t.Errorf("Compare of %s and %s is %d", text(x), text(y), fraction.Compare(x, y))
	}
}

func TestFloor(t *testing.T) {
	for _, list := range [][]api.Frac{small(), wide()} {
		for _, a := range list {
			want := fromBig(new(big.Int).Quo(toBig(a.Num), toBig(a.Den)))
			if got, e := fraction.Floor(a); !slices.Equal(got, want) || e != api.OK {
				t.Errorf("Floor of %s: %.20s, error %d", text(a), toBig(got), e)
			}
		}
	}
	for _, a := range malformed() {
		if got, e := fraction.Floor(a); len(got) > 0 || e != api.ErrInvalid {
			t.Errorf("Floor of %s: %.20s, error %d", text(a), toBig(got), e)
		}
	}
}
