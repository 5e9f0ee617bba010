package fraction_test

import (
	"math"
	"math/big"
	"testing"

	"testgate/api"
	"testgate/fraction"
)

// operation is a function of two fractions, with the same function of package big.
type operation struct {
	name string
	f    func(a, b api.Frac) (api.Frac, api.Errno)
	big  func(a, b *big.Rat) *big.Rat
}

func operations() []operation {
	return []operation{
		{"Add", fraction.Add, func(a, b *big.Rat) *big.Rat { return new(big.Rat).Add(a, b) }},
		{"Sub", fraction.Sub, func(a, b *big.Rat) *big.Rat { return new(big.Rat).Sub(a, b) }},
		{"Mul", fraction.Mul, func(a, b *big.Rat) *big.Rat { return new(big.Rat).Mul(a, b) }},
		{"Div", fraction.Div, divided},
	}
}

// divided returns a / b, or nil if b is 0.
func divided(a, b *big.Rat) *big.Rat {
	if b.Sign() == 0 {
		return nil
	}
	return new(big.Rat).Quo(a, b)
}

// expected returns what an operation has to return for a value; nil is a division by 0.
func expected(value *big.Rat) (api.Frac, api.Errno) {
	if value == nil {
		return api.Frac{}, api.ErrDivide
	}
	if value.Sign() < 0 {
		return api.Frac{}, api.ErrNegative
	}
	if max(value.Num().BitLen(), value.Denom().BitLen()) > 32*api.MaxLimbs {
		return api.Frac{}, api.ErrLimit
	}
	return fromRat(value), api.OK
}

func (o operation) check(t *testing.T, a, b api.Frac) {
	t.Helper()
	want, wantError := expected(o.big(toRat(a), toRat(b)))
	if got, e := o.f(a, b); !same(got, want) || e != wantError {
		t.Fatalf("%s of %s and %s: %s, error %d, not %s, error %d", o.name, text(a), text(b), text(got), e, text(want), wantError)
	}
}

func TestOperations(t *testing.T) {
	for _, o := range operations() {
		for _, a := range small() {
			for _, b := range small() {
				o.check(t, a, b)
			}
		}
	}
}

func TestWideOperations(t *testing.T) {
	for _, o := range operations() {
		for _, a := range every(19, wide()) {
			for _, b := range every(9, wide()) {
				o.check(t, a, b)
			}
		}
	}
}

// tooWide reports whether a product that an operation forms of a and b by the rules of schools has too many limbs.
func tooWide(o operation, a, b api.Frac) bool {
	if o.name == "Mul" {
		b = api.Frac{Num: b.Den, Den: b.Num}
	}
	left, right := product(toBig(a.Num), toBig(b.Den)), product(toBig(a.Den), toBig(b.Num))
	return max(left.BitLen(), right.BitLen()) > 32*api.MaxLimbs
}

// The results are chosen: they have few limbs also where the products on the way have too many.
func TestOperationsWithWideProducts(t *testing.T) {
	counts := map[string]int{}
	check := func(o operation, a, b api.Frac) {
		if _, e := expected(o.big(toRat(a), toRat(b))); e == api.OK && tooWide(o, a, b) {
			o.check(t, a, b)
			counts[o.name]++
		}
	}
	o := operations()
	for _, a := range every(9, wide()) {
		for _, b := range append(every(41, wide()), ints(1, 1), ints(3, 2), of(one(), toBig(a.Den)), of(toBig(a.Num), one())) {
			if sum, e := expected(o[0].big(toRat(a), toRat(b))); e == api.OK {
				check(o[1], sum, a)
				check(o[1], sum, b)
			}
			if difference, e := expected(o[1].big(toRat(b), toRat(a))); e == api.OK {
				check(o[0], a, difference)
				check(o[0], difference, a)
			}
			if ratio, e := expected(o[3].big(toRat(b), toRat(a))); e == api.OK {
				check(o[2], a, ratio)
				check(o[2], ratio, a)
			}
			if result, e := expected(o[2].big(toRat(a), toRat(b))); e == api.OK && len(a.Num) > 0 {
				check(o[3], result, a)
				check(o[3], result, b)
			}
		}
	}
	for _, o := range operations() {
		if counts[o.name] < 50 {
			t.Errorf("only %d pairs for %s", counts[o.name], o.name)
		}
	}
}

// A number that is not well-formed is ErrInvalid, whatever else is wrong.
func TestOperationsOfMalformed(t *testing.T) {
	others := append(malformed(), ints(0, 1), ints(1, 2), of(full(0), one()), of(one(), full(0)))
	for _, o := range operations() {
		for _, a := range malformed() {
			for _, b := range others {
				if got, e := o.f(a, b); !same(got, api.Frac{}) || e != api.ErrInvalid {
					t.Errorf("%s of %s and %s: %s, error %d", o.name, text(a), text(b), text(got), e)
				}
				if got, e := o.f(b, a); !same(got, api.Frac{}) || e != api.ErrInvalid {
					t.Errorf("%s of %s and %s: %s, error %d", o.name, text(b), text(a), text(got), e)
				}
			}
		}
	}
}

// Each pair of cases has a result at the limit of MaxLimbs limbs and one beyond it.
func TestLimits(t *testing.T) {
	o := operations()
	zero, first := api.Frac{}, ints(1, 1)
	for _, c := range []struct {
		o    operation
		a, b api.Frac
		want api.Frac
		e    api.Errno
	}{
		{o[0], of(full(-1), one()), first, of(full(0), one()), api.OK}, {o[0], of(full(0), one()), first, zero, api.ErrLimit},
		{o[0], first, of(one(), full(-1)), of(full(0), full(-1)), api.OK}, {o[0], first, of(one(), full(0)), zero, api.ErrLimit},
		{o[0], of(full(-1), full(0)), of(one(), full(0)), first, api.OK}, {o[0], of(full(-1), full(0)), of(full(-1), full(0)), zero, api.ErrLimit},
		{o[0], of(full(0), big.NewInt(2)), ints(1, 2), of(power(2, 4095, 0), one()), api.OK}, {o[0], of(full(0), big.NewInt(2)), first, zero, api.ErrLimit},
		{o[0], of(one(), power(2, 2048, 0)), of(one(), power(2, 2048, -1)), of(power(2, 2049, -1), product(power(2, 2048, 0), power(2, 2048, -1))), api.OK}, {o[0], of(one(), power(2, 2048, 0)), of(one(), power(2, 2049, -1)), zero, api.ErrLimit},
		{o[1], first, of(one(), full(0)), of(full(-1), full(0)), api.OK}, {o[1], ints(2, 1), of(one(), full(0)), zero, api.ErrLimit},
		{o[1], ints(2, 1), of(full(-2), full(-1)), of(full(0), full(-1)), api.OK}, {o[1], ints(2, 1), of(full(-1), full(0)), zero, api.ErrLimit},
		{o[1], of(full(0), full(-1)), first, of(one(), full(-1)), api.OK}, {o[1], of(full(0), big.NewInt(2)), ints(1, 2), of(power(2, 4095, -1), one()), api.OK}, {o[1], of(full(0), one()), ints(1, 2), zero, api.ErrLimit},
		{o[1], of(full(0), full(-1)), of(full(0), full(-1)), ints(0, 1), api.OK}, {o[1], of(full(0), full(-1)), of(full(-1), full(-2)), zero, api.ErrNegative}, {o[1], of(one(), full(0)), of(one(), full(-1)), zero, api.ErrNegative}, {o[1], of(one(), full(-1)), of(one(), full(0)), zero, api.ErrLimit},
		{o[2], of(power(2, 2048, 0), one()), of(power(2, 2047, 0), one()), of(power(2, 4095, 0), one()), api.OK}, {o[2], of(power(2, 2048, 0), one()), of(power(2, 2048, 0), one()), zero, api.ErrLimit},
		{o[2], of(one(), power(2, 2048, 0)), of(one(), power(2, 2047, 0)), of(one(), power(2, 4095, 0)), api.OK}, {o[2], of(one(), power(2, 2048, 0)), of(one(), power(2, 2048, 0)), zero, api.ErrLimit},
		{o[2], of(full(0), full(-1)), of(full(-1), full(0)), first, api.OK}, {o[2], of(full(0), full(-1)), of(full(0), full(-1)), zero, api.ErrLimit}, {o[2], of(full(0), one()), ints(0, 1), ints(0, 1), api.OK},
		{o[3], of(power(2, 2048, 0), one()), of(one(), power(2, 2047, 0)), of(power(2, 4095, 0), one()), api.OK}, {o[3], of(power(2, 2048, 0), one()), of(one(), power(2, 2048, 0)), zero, api.ErrLimit},
		{o[3], of(full(0), full(-1)), of(full(0), full(-1)), first, api.OK}, {o[3], of(full(0), full(-1)), of(full(-1), full(0)), zero, api.ErrLimit},
		{o[3], of(full(0), one()), ints(0, 1), zero, api.ErrDivide}, {o[3], ints(0, 1), ints(0, 1), zero, api.ErrDivide}, {o[3], ints(0, 1), of(full(0), full(-1)), ints(0, 1), api.OK},
	} {
		c.o.check(t, c.a, c.b)
		if got, e := c.o.f(c.a, c.b); !same(got, c.want) || e != c.e {
			t.Errorf("%s of %s and %s: %s, error %d", c.o.name, text(c.a), text(c.b), text(got), e)
		}
	}
}

func checkPow(t *testing.T, a api.Frac, n int) {
	t.Helper()
	value := big.NewRat(1, 1)
	for range n {
		value.Mul(value, toRat(a))
	}
	want, wantError := expected(value)
	if got, e := fraction.Pow(a, n); !same(got, want) || e != wantError {
		t.Fatalf("Pow of %s and %d: %s, error %d", text(a), n, text(got), e)
	}
}

func TestPow(t *testing.T) {
	for _, a := range small() {
		for _, n := range []int{0, 1, 2, 3, 5, 8, 64, 127} {
			checkPow(t, a, n)
		}
	}
	for _, a := range every(13, wide()) {
		for n := range 4 {
			checkPow(t, a, n)
		}
	}
}

func TestPowEdges(t *testing.T) {
	zero := api.Frac{}
	for _, c := range []struct {
		a    api.Frac
		n    int
		want api.Frac
		e    api.Errno
	}{
		{ints(0, 1), 0, ints(1, 1), api.OK}, {ints(0, 1), 1, ints(0, 1), api.OK}, {ints(0, 1), 65536, ints(0, 1), api.OK}, {ints(1, 1), 65535, ints(1, 1), api.OK}, {ints(1, 1), 65536, ints(1, 1), api.OK},
		{of(full(0), full(-1)), 0, ints(1, 1), api.OK}, {of(full(0), full(-1)), 1, of(full(0), full(-1)), api.OK}, {of(full(0), full(-1)), 2, zero, api.ErrLimit},
		{ints(2, 1), 4095, of(power(2, 4095, 0), one()), api.OK}, {ints(2, 1), 4096, zero, api.ErrLimit}, {ints(1, 2), 4095, of(one(), power(2, 4095, 0)), api.OK}, {ints(1, 2), 4096, zero, api.ErrLimit},
		{ints(2, 3), 2584, of(power(2, 2584, 0), power(3, 2584, 0)), api.OK}, {ints(2, 3), 2585, zero, api.ErrLimit}, {ints(3, 2), 2585, zero, api.ErrLimit}, {ints(2, 3), 65536, zero, api.ErrLimit}, {ints(3, 2), 65536, zero, api.ErrLimit},
		{ints(0, 1), -1, zero, api.ErrRange}, {ints(0, 1), 65537, zero, api.ErrRange}, {ints(1, 1), 65537, zero, api.ErrRange}, {ints(1, 2), -1, zero, api.ErrRange}, {ints(1, 2), 65537, zero, api.ErrRange},
		{of(full(0), one()), 65537, zero, api.ErrRange}, {ints(2, 1), math.MinInt, zero, api.ErrRange}, {ints(2, 1), math.MaxInt, zero, api.ErrRange},
	} {
		if got, e := fraction.Pow(c.a, c.n); !same(got, c.want) || e != c.e {
			t.Errorf("Pow of %s and %d: %s, error %d", text(c.a), c.n, text(got), e)
		}
	}
	for _, a := range malformed() {
		for _, n := range []int{-1, 0, 1, 2, 65536, 65537} {
			if got, e := fraction.Pow(a, n); !same(got, zero) || e != api.ErrInvalid {
				t.Errorf("Pow of %s and %d: %s, error %d", text(a), n, text(got), e)
			}
		}
	}
}

func TestSum(t *testing.T) {
	list := small()
	total := new(big.Rat)
	for n, a := range list {
		if got, e := fraction.Sum(list[:n]); !same(got, fromRat(total)) || e != api.OK {
			t.Errorf("Sum of %d fractions: %s, error %d", n, text(got), e)
		}
		total.Add(total, toRat(a))
	}
	for _, a := range wide() {
		if got, e := fraction.Sum([]api.Frac{a}); !same(got, a) || e != api.OK {
			t.Errorf("Sum of %s alone: %s, error %d", text(a), text(got), e)
		}
	}
	for _, empty := range [][]api.Frac{nil, {}} {
		if got, e := fraction.Sum(empty); !same(got, ints(0, 1)) || e != api.OK {
			t.Errorf("Sum of no fractions: %s, error %d", text(got), e)
		}
	}
}

func TestSumErrors(t *testing.T) {
	whole := of(full(0), one())
	half := power(2, 4095, -1)
	almost, rest := of(power(2, 4095, -2), half), of(big.NewInt(3), half)
	for _, c := range []struct {
		name string
		l    []api.Frac
		want api.Frac
		e    api.Errno
	}{
		{"the greatest number and 0", []api.Frac{whole, ints(0, 1)}, whole, api.OK},
		{"the greatest number and 1", []api.Frac{whole, ints(1, 1)}, api.Frac{}, api.ErrLimit},
		{"3 in an order with short partial sums", []api.Frac{almost, rest, almost, almost}, ints(3, 1), api.OK},
		{"3 in an order with a long partial sum", []api.Frac{almost, almost, almost, rest}, api.Frac{}, api.ErrLimit},
		{"a long partial sum at the beginning", []api.Frac{whole, whole, ints(1, 2), ints(1, 2)}, api.Frac{}, api.ErrLimit},
		{"a long partial sum and no fraction", []api.Frac{whole, whole, {}}, api.Frac{}, api.ErrInvalid},
	} {
		if got, e := fraction.Sum(c.l); !same(got, c.want) || e != c.e {
			t.Errorf("Sum of %s: %s, error %d", c.name, text(got), e)
		}
	}
	for _, bad := range malformed() {
		for _, l := range [][]api.Frac{{bad}, {bad, ints(1, 2)}, {ints(1, 2), bad, ints(1, 3)}, {whole, whole, bad}} {
			if got, e := fraction.Sum(l); !same(got, api.Frac{}) || e != api.ErrInvalid {
				t.Errorf("Sum of %d fractions, one of them %s: %s, error %d", len(l), text(bad), text(got), e)
			}
		}
	}
}
