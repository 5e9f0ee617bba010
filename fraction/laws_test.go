package fraction_test

import (
	"slices"
	"testing"

	"testgate/api"
	"testgate/fraction"
)

// calculator computes and fails the test if there is an error.
type calculator struct{ t *testing.T }

func (c calculator) do(f func(a, b api.Frac) (api.Frac, api.Errno), a, b api.Frac) api.Frac {
	c.t.Helper()
	result, e := f(a, b)
	if e != api.OK {
		c.t.Fatalf("error %d for %s and %s", e, text(a), text(b))
	}
	return result
}

func (c calculator) add(a, b api.Frac) api.Frac { c.t.Helper(); return c.do(fraction.Add, a, b) }
func (c calculator) sub(a, b api.Frac) api.Frac { c.t.Helper(); return c.do(fraction.Sub, a, b) }
func (c calculator) mul(a, b api.Frac) api.Frac { c.t.Helper(); return c.do(fraction.Mul, a, b) }
func (c calculator) div(a, b api.Frac) api.Frac { c.t.Helper(); return c.do(fraction.Div, a, b) }

func (c calculator) pow(a api.Frac, n int) api.Frac {
	c.t.Helper()
	return c.do(func(a, _ api.Frac) (api.Frac, api.Errno) { return fraction.Pow(a, n) }, a, api.Frac{})
}

func (c calculator) same(law string, a, b api.Frac) {
	c.t.Helper()
	if !same(a, b) || !fraction.Check(a) || fraction.Compare(a, b) != 0 {
		c.t.Errorf("%s: %s and %s", law, text(a), text(b))
	}
}

func TestLawsOfTwo(t *testing.T) {
	c := calculator{t}
	for _, a := range small() {
		for _, b := range small() {
			c.same("a + b = b + a", c.add(a, b), c.add(b, a))
			c.same("a * b = b * a", c.mul(a, b), c.mul(b, a))
			c.same("(a + b) - b = a", c.sub(c.add(a, b), b), a)
			if len(b.Num) > 0 {
				c.same("(a * b) / b = a", c.div(c.mul(a, b), b), a)
				c.same("(a / b) * b = a", c.mul(c.div(a, b), b), a)
			}
		}
	}
}

func TestLawsOfThree(t *testing.T) {
	c := calculator{t}
	list := []api.Frac{ints(0, 1), ints(1, 1), ints(1, 6), ints(2, 3), ints(9, 2), of(power(2, 700, 1), power(6, 200, 0)), of(power(6, 250, 0), power(5, 250, 0)), of(one(), power(2, 640, 0)), of(power(2, 640, -1), power(2, 640, 1))}
	for _, a := range list {
		for _, b := range list {
			for _, d := range list {
				c.same("(a + b) + d = a + (b + d)", c.add(c.add(a, b), d), c.add(a, c.add(b, d)))
				c.same("(a * b) * d = a * (b * d)", c.mul(c.mul(a, b), d), c.mul(a, c.mul(b, d)))
				c.same("a * (b + d) = a * b + a * d", c.mul(a, c.add(b, d)), c.add(c.mul(a, b), c.mul(a, d)))
				total, e := fraction.Sum([]api.Frac{a, b, d})
				c.same("the sum of a, b and d is a + b + d", c.add(c.add(a, b), d), total)
				if e != api.OK {
					t.Errorf("Sum: error %d", e)
				}
				if fraction.Compare(a, b) == -1 && fraction.Compare(c.add(a, d), c.add(b, d)) != -1 {
					t.Errorf("%s is below %s, but no longer with %s added to both", text(a), text(b), text(d))
				}
			}
		}
	}
}

func TestLawsOfPowers(t *testing.T) {
	c := calculator{t}
	for _, a := range small() {
		for m := range 6 {
			for n := range 6 {
				c.same("a^(m + n) = a^m * a^n", c.pow(a, m+n), c.mul(c.pow(a, m), c.pow(a, n)))
			}
		}
	}
}

// calls returns all numbers that the functions make of a and b.
func calls(a, b api.Frac) []api.Nat {
	var results []api.Frac
	for _, o := range operations() {
		result, _ := o.f(a, b)
		results = append(results, result)
	}
	made, _ := fraction.Make(a.Num, b.Den)
	first, _ := fraction.Pow(a, 1)
	zeroth, _ := fraction.Pow(a, 0)
	none, _ := fraction.Sum(nil)
	alone, _ := fraction.Sum([]api.Frac{a})
	both, _ := fraction.Sum([]api.Frac{a, b})
	floor, _ := fraction.Floor(a)
	numbers := []api.Nat{floor}
	for _, result := range append(results, made, first, zeroth, none, alone, both) {
		numbers = append(numbers, result.Num, result.Den)
	}
	return numbers
}

// guarded returns a copy of a with one limb behind its end.
func guarded(a api.Nat, guard uint32) api.Nat {
	return append(slices.Clone(a), guard)[:len(a)]
}

// Writing into a result, also into the room behind it, changes neither an argument nor another number.
func TestResultsShareNoMemory(t *testing.T) {
	list := append(every(97, wide()), malformed()[:5]...)
	list = append(list, ints(0, 1), ints(1, 1), ints(1, 6), ints(7, 3), api.Frac{Num: make(api.Nat, 0, 4), Den: api.Nat{1}})
	for _, x := range list {
		for _, y := range list {
			a := api.Frac{Num: guarded(x.Num, 5), Den: guarded(x.Den, 6)}
			b := api.Frac{Num: guarded(y.Num, 7), Den: guarded(y.Den, 8)}
			numbers, want := calls(a, b), calls(x, y)
			for i, number := range numbers {
				if !slices.Equal(number, want[i]) {
					t.Fatalf("number %d of %s and %s changed", i, text(x), text(y))
				}
				number = number[:cap(number)]
				for k := range number {
					number[k] = 0xdead
				}
			}
			if !same(a, x) || !same(b, y) {
				t.Fatalf("an argument changed: %s and %s", text(x), text(y))
			}
			for i, n := range []api.Nat{a.Num, a.Den, b.Num, b.Den} {
				if guard := n[:len(n)+1][len(n)]; guard != uint32(5+i) {
					t.Fatalf("the room behind an argument changed: %s and %s", text(x), text(y))
				}
			}
		}
	}
}

// A nil slice and an empty one are both 0.
func TestEmptyIsNil(t *testing.T) {
	for _, num := range []api.Nat{nil, {}, make(api.Nat, 0, 8)} {
		a := api.Frac{Num: num, Den: api.Nat{1}}
		s, e := fraction.Format(a)
		round, f := fraction.Round(a, 1)
		if !fraction.Check(a) || fraction.Compare(a, ints(0, 1)) != 0 || s != "0" || round != "0.0" || e != api.OK || f != api.OK {
			t.Errorf("%#v is not 0", a)
		}
		if _, e := fraction.Div(ints(1, 2), a); e != api.ErrDivide {
			t.Errorf("1/2 divided by %#v: error %d", a, e)
		}
	}
}
