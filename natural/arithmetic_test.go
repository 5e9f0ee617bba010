package natural_test

import (
	"math/big"
	"slices"
	"testing"

	"testgate/api"
	"testgate/natural"
)

// operation is a function of two numbers, with the same function of package big.
type operation struct {
	name string
	f    func(a, b api.Nat) (api.Nat, api.Errno)
	big  func(a, b *big.Int) *big.Int
}

func operations() []operation {
	return []operation{
		{"Add", natural.Add, func(a, b *big.Int) *big.Int { return new(big.Int).Add(a, b) }},
		{"Sub", natural.Sub, func(a, b *big.Int) *big.Int { return new(big.Int).Sub(a, b) }},
		{"Mul", natural.Mul, func(a, b *big.Int) *big.Int { return new(big.Int).Mul(a, b) }},
		{"Gcd", natural.Gcd, func(a, b *big.Int) *big.Int { return new(big.Int).GCD(nil, nil, a, b) }},
	}
}

// expected returns what an operation has to return for a value.
func expected(value *big.Int) (api.Nat, api.Errno) {
	if value.Sign() < 0 {
		return nil, api.ErrNegative
	}
	if value.BitLen() > 32*api.MaxLimbs {
		return nil, api.ErrLimit
	}
	return fromBig(value), api.OK
}

func TestOperations(t *testing.T) {
	for _, o := range operations() {
		for _, list := range [][]api.Nat{small(), wide()} {
			for _, a := range list {
				for _, b := range list {
					want, wantError := expected(o.big(toBig(a), toBig(b)))
					if got, e := o.f(a, b); !slices.Equal(got, want) || e != wantError {
						t.Fatalf("%s of %v (%d limbs) and %v (%d limbs): %v (%d limbs), error %d, not %v (%d limbs), error %d",
							o.name, short(a), len(a), short(b), len(b), short(got), len(got), e, short(want), len(want), wantError)
					}
				}
			}
		}
	}
}

// A number that is not well-formed is ErrInvalid, whatever else is wrong.
func TestOperationsOfMalformed(t *testing.T) {
	others := append(malformed(), nil, api.Nat{1}, api.Nat{top, top}, limbs(api.MaxLimbs, top))
	for _, o := range operations() {
		for _, a := range malformed() {
			for _, b := range others {
				if got, e := o.f(a, b); len(got) > 0 || e != api.ErrInvalid {
					t.Errorf("%s of %v (%d limbs) and %v (%d limbs): %v, error %d", o.name, short(a), len(a), short(b), len(b), short(got), e)
				}
				if got, e := o.f(b, a); len(got) > 0 || e != api.ErrInvalid {
					t.Errorf("%s of %v (%d limbs) and %v (%d limbs): %v, error %d", o.name, short(b), len(b), short(a), len(a), short(got), e)
				}
			}
		}
	}
}

func TestLimits(t *testing.T) {
	full := limbs(api.MaxLimbs, top)
	lessOne := slices.Clone(full)
	lessOne[0]--
	for _, c := range []struct {
		name string
		f    func(a, b api.Nat) (api.Nat, api.Errno)
		a, b api.Nat
		want api.Nat
		e    api.Errno
	}{
		{"Add", natural.Add, lessOne, api.Nat{1}, full, api.OK},
		{"Add", natural.Add, full, api.Nat{1}, nil, api.ErrLimit},
		{"Add", natural.Add, api.Nat{1}, full, nil, api.ErrLimit},
		{"Add", natural.Add, full, full, nil, api.ErrLimit},
		{"Add", natural.Add, full, nil, full, api.OK},
		{"Mul", natural.Mul, withTop(64, 1), withTop(65, 1), withTop(128, 1), api.OK},
		{"Mul", natural.Mul, withTop(65, 1), withTop(65, 1), nil, api.ErrLimit},
		{"Mul", natural.Mul, withTop(64, top), withTop(64, top), append(withTop(127, 1), top-1), api.OK},
		{"Mul", natural.Mul, full, api.Nat{2}, nil, api.ErrLimit},
		{"Mul", natural.Mul, full, full, nil, api.ErrLimit},
		{"Mul", natural.Mul, full, api.Nat{1}, full, api.OK},
		{"Mul", natural.Mul, full, nil, nil, api.OK},
		{"Sub", natural.Sub, full, full, nil, api.OK},
		{"Sub", natural.Sub, lessOne, full, nil, api.ErrNegative},
		{"Sub", natural.Sub, nil, api.Nat{1}, nil, api.ErrNegative},
		{"Sub", natural.Sub, api.Nat{2}, api.Nat{3}, nil, api.ErrNegative},
	} {
		if got, e := c.f(c.a, c.b); !slices.Equal(got, c.want) || e != c.e {
			t.Errorf("%s of %v (%d limbs) and %v (%d limbs): %v (%d limbs), error %d", c.name, short(c.a), len(c.a), short(c.b), len(c.b), short(got), len(got), e)
		}
	}
}

func TestPow(t *testing.T) {
	for _, a := range append(small(), wide()...) {
		for _, n := range []int{0, 1, 2, 3, 4, 5, 7, 8, 31, 32, 63, 64, 100, 127, 128, 129} {
			want, wantError := expected(new(big.Int).Exp(toBig(a), big.NewInt(int64(n)), nil))
			if got, e := natural.Pow(a, n); !slices.Equal(got, want) || e != wantError {
				t.Fatalf("Pow of %v (%d limbs) and %d: %v (%d limbs), error %d", short(a), len(a), n, short(got), len(got), e)
			}
		}
	}
}

func TestPowEdges(t *testing.T) {
	for _, c := range []struct {
		a    api.Nat
		n    int
		want api.Nat
		e    api.Errno
	}{
		{nil, 0, api.Nat{1}, api.OK}, {nil, 1, nil, api.OK}, {nil, 65536, nil, api.OK},
		{api.Nat{1}, 0, api.Nat{1}, api.OK}, {api.Nat{1}, 65535, api.Nat{1}, api.OK}, {api.Nat{1}, 65536, api.Nat{1}, api.OK},
		{limbs(api.MaxLimbs, top), 0, api.Nat{1}, api.OK}, {limbs(api.MaxLimbs, top), 1, limbs(api.MaxLimbs, top), api.OK}, {limbs(api.MaxLimbs, top), 2, nil, api.ErrLimit},
		{api.Nat{2}, 4095, withTop(api.MaxLimbs, 1<<31), api.OK}, {api.Nat{2}, 4096, nil, api.ErrLimit}, {api.Nat{2}, 65535, nil, api.ErrLimit}, {api.Nat{2}, 65536, nil, api.ErrLimit},
		{api.Nat{0, 1}, 127, withTop(api.MaxLimbs, 1), api.OK}, {api.Nat{0, 1}, 128, nil, api.ErrLimit},
		{nil, -1, nil, api.ErrRange}, {nil, 65537, nil, api.ErrRange}, {api.Nat{1}, -1, nil, api.ErrRange}, {api.Nat{1}, 65537, nil, api.ErrRange},
		{api.Nat{2}, -1 << 63, nil, api.ErrRange}, {api.Nat{2}, 1<<63 - 1, nil, api.ErrRange}, {limbs(api.MaxLimbs, top), 65537, nil, api.ErrRange},
	} {
		if got, e := natural.Pow(c.a, c.n); !slices.Equal(got, c.want) || e != c.e {
			t.Errorf("Pow of %v (%d limbs) and %d: %v, error %d", short(c.a), len(c.a), c.n, short(got), e)
		}
	}
	for _, a := range malformed() {
		for _, n := range []int{-1, 0, 1, 2, 65536, 65537} {
			if got, e := natural.Pow(a, n); len(got) > 0 || e != api.ErrInvalid {
				t.Errorf("Pow of %v (%d limbs) and %d: %v, error %d", short(a), len(a), n, short(got), e)
			}
		}
	}
}
