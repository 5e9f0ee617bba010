package natural_test

import (
	"math/big"
	"slices"
	"testing"

	"testgate/api"
	"testgate/natural"
)

func checkDivide(t *testing.T, a, b api.Nat) {
	t.Helper()
	bigQuotient, bigRest := new(big.Int).QuoRem(toBig(a), toBig(b), new(big.Int))
	q, r, e := natural.Divide(a, b)
	if !slices.Equal(q, fromBig(bigQuotient)) || !slices.Equal(r, fromBig(bigRest)) || e != api.OK {
		t.Fatalf("Divide of %v (%d limbs) by %v (%d limbs): %v (%d limbs), %v (%d limbs), error %d", short(a), len(a), short(b), len(b), short(q), len(q), short(r), len(r), e)
	}
}

func TestDivide(t *testing.T) {
	for _, list := range [][]api.Nat{small(), wide()} {
		for _, a := range list {
			for _, b := range list {
				if len(b) > 0 {
					checkDivide(t, a, b)
				}
			}
		}
	}
}

// With limbs of few edge values, a guess of a digit is too great by 1 and by 2 as well, and is the greatest limb.
func TestDivideGuesses(t *testing.T) {
	edges := []uint32{0, 1, 1<<31 - 1, 1 << 31, top - 1, top}
	numbers := func(n int) []api.Nat {
		list := []api.Nat{nil}
		for range n {
			var longer []api.Nat
			for _, low := range list {
				for _, limb := range edges {
					longer = append(longer, append(slices.Clone(low), limb))
				}
			}
			list = longer
		}
		return slices.DeleteFunc(list, func(a api.Nat) bool { return a[n-1] == 0 })
	}
	for _, a := range numbers(4) {
		for n := 1; n <= 3; n++ {
			for _, b := range numbers(n) {
				checkDivide(t, a, b)
			}
		}
	}
}

func TestDivideErrors(t *testing.T) {
	for _, a := range append(large(), nil, api.Nat{1}, api.Nat{top}) {
		for _, zero := range []api.Nat{nil, {}} {
			if q, r, e := natural.Divide(a, zero); len(q) > 0 || len(r) > 0 || e != api.ErrDivide {
				t.Errorf("Divide of %v (%d limbs) by 0: %v, %v, error %d", short(a), len(a), q, r, e)
			}
		}
	}
	for _, a := range malformed() {
		for _, b := range append(malformed(), nil, api.Nat{1}, limbs(api.MaxLimbs, top)) {
			if q, r, e := natural.Divide(a, b); len(q) > 0 || len(r) > 0 || e != api.ErrInvalid {
				t.Errorf("Divide of %v (%d limbs) by %v (%d limbs): error %d", short(a), len(a), short(b), len(b), e)
			}
			if q, r, e := natural.Divide(b, a); len(q) > 0 || len(r) > 0 || e != api.ErrInvalid {
				t.Errorf("Divide of %v (%d limbs) by %v (%d limbs): error %d", short(b), len(b), short(a), len(a), e)
			}
		}
	}
}

func TestGcd(t *testing.T) {
	full := limbs(api.MaxLimbs, top)
	for _, c := range []struct{ a, b, want api.Nat }{
		{nil, nil, nil}, {nil, api.Nat{5}, api.Nat{5}}, {api.Nat{5}, nil, api.Nat{5}}, {nil, full, full}, {full, nil, full}, {full, full, full},
		{api.Nat{12}, api.Nat{18}, api.Nat{6}}, {api.Nat{18}, api.Nat{12}, api.Nat{6}}, {api.Nat{7}, api.Nat{9}, api.Nat{1}}, {api.Nat{1}, full, api.Nat{1}},
		{withTop(100, 12), withTop(90, 18), withTop(90, 6)}, {withTop(128, 1<<31), withTop(127, 3), withTop(127, 1)}, {full, limbs(64, top), limbs(64, top)}, {full, limbs(96, top), limbs(32, top)},
	} {
		if got, e := natural.Gcd(c.a, c.b); !slices.Equal(got, c.want) || e != api.OK {
			t.Errorf("Gcd of %v (%d limbs) and %v (%d limbs): %v (%d limbs), error %d", short(c.a), len(c.a), short(c.b), len(c.b), short(got), len(got), e)
		}
	}
}

// Neighbours in the sequence of Fibonacci need the most divisions.
func TestGcdOfFibonacci(t *testing.T) {
	a, b := natural.Of(0), natural.Of(1)
	for {
		sum, e := natural.Add(a, b)
		if e != api.OK {
			break
		}
		a, b = b, sum
	}
	if got, e := natural.Gcd(a, b); !slices.Equal(got, api.Nat{1}) || e != api.OK || len(b) != api.MaxLimbs {
		t.Errorf("Gcd of two Fibonacci numbers of %d limbs: %v, error %d", len(b), short(got), e)
	}
}
