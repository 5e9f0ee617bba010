package natural_test

import (
	"slices"
	"testing"

	"testgate/api"
	"testgate/natural"
)

// calculator computes and fails the test if there is an error.
type calculator struct{ t *testing.T }

func (c calculator) do(f func(a, b api.Nat) (api.Nat, api.Errno), a, b api.Nat) api.Nat {
	c.t.Helper()
	result, e := f(a, b)
	if e != api.OK {
		c.t.Fatalf("error %d for %v and %v", e, short(a), short(b))
	}
	return result
}

func (c calculator) add(a, b api.Nat) api.Nat { c.t.Helper(); return c.do(natural.Add, a, b) }
func (c calculator) sub(a, b api.Nat) api.Nat { c.t.Helper(); return c.do(natural.Sub, a, b) }
func (c calculator) mul(a, b api.Nat) api.Nat { c.t.Helper(); return c.do(natural.Mul, a, b) }
func (c calculator) gcd(a, b api.Nat) api.Nat { c.t.Helper(); return c.do(natural.Gcd, a, b) }

func (c calculator) pow(a api.Nat, n int) api.Nat {
	c.t.Helper()
	return c.do(func(a, _ api.Nat) (api.Nat, api.Errno) { return natural.Pow(a, n) }, a, nil)
}

func (c calculator) same(law string, a, b api.Nat) {
	c.t.Helper()
	if !slices.Equal(a, b) || !natural.Check(a) || !natural.Check(b) {
		c.t.Errorf("%s: %v and %v", law, short(a), short(b))
	}
}

func TestLawsOfTwo(t *testing.T) {
	c := calculator{t}
	for _, a := range small() {
		for _, b := range small() {
			c.same("a + b = b + a", c.add(a, b), c.add(b, a))
			c.same("a * b = b * a", c.mul(a, b), c.mul(b, a))
			c.same("(a + b) - b = a", c.sub(c.add(a, b), b), a)
			c.same("gcd of a and b is that of b and a", c.gcd(a, b), c.gcd(b, a))
			c.same("gcd of a and a + b is that of a and b", c.gcd(a, c.add(a, b)), c.gcd(a, b))
			if len(b) > 0 {
				q, r, e := natural.Divide(a, b)
				c.same("(a / b) * b + a % b = a", c.add(c.mul(q, b), r), a)
				if e != api.OK || natural.Compare(r, b) != -1 {
					t.Errorf("the remainder of %v and %v is %v, error %d", short(a), short(b), short(r), e)
				}
			}
		}
	}
}

func TestLawsOfThree(t *testing.T) {
	c := calculator{t}
	list := []api.Nat{nil, {1}, {2}, {top}, {0, 1}, {top, top}, {1, 0, 1 << 31}, limbs(20, top), withTop(30, 5), limbs(40, 7)}
	for _, a := range list {
		for _, b := range list {
			for _, d := range list {
				c.same("(a + b) + d = a + (b + d)", c.add(c.add(a, b), d), c.add(a, c.add(b, d)))
				c.same("(a * b) * d = a * (b * d)", c.mul(c.mul(a, b), d), c.mul(a, c.mul(b, d)))
				c.same("a * (b + d) = a * b + a * d", c.mul(a, c.add(b, d)), c.add(c.mul(a, b), c.mul(a, d)))
				c.same("gcd of a * d and b * d is that of a and b times d", c.gcd(c.mul(a, d), c.mul(b, d)), c.mul(c.gcd(a, b), d))
			}
		}
	}
}

func TestLawsOfPowers(t *testing.T) {
	c := calculator{t}
	for _, a := range small() {
		for m := range 8 {
			for n := range 8 {
				c.same("a^(m + n) = a^m * a^n", c.pow(a, m+n), c.mul(c.pow(a, m), c.pow(a, n)))
			}
		}
	}
}

func TestParseOfFormat(t *testing.T) {
	for _, a := range append(small(), wide()...) {
		s, e := natural.Format(a)
		got, f := natural.Parse(s)
		if !slices.Equal(got, a) || e != api.OK || f != api.OK {
			t.Errorf("Parse of Format of %v (%d limbs): %v (%d limbs), errors %d and %d", short(a), len(a), short(got), len(got), e, f)
		}
	}
}

// calls returns what every function makes of a and b.
func calls(a, b api.Nat) []api.Nat {
	var results []api.Nat
	for _, o := range operations() {
		result, _ := o.f(a, b)
		results = append(results, result)
	}
	power, _ := natural.Pow(a, 1)
	first, _ := natural.Pow(a, 0)
	q, r, _ := natural.Divide(a, b)
	return append(results, power, first, q, r)
}

// Writing into a result, also into the room behind it, changes neither an argument nor another result.
func TestResultsShareNoMemory(t *testing.T) {
	list := append(wide(), api.Nat{}, make(api.Nat, 0, 4), api.Nat{6}, api.Nat{4})
	list = append(list, malformed()...)
	for _, x := range list {
		for _, y := range list {
			a, b := append(slices.Clone(x), 77)[:len(x)], append(slices.Clone(y), 88)[:len(y)]
			results := calls(a, b)
			want := calls(x, y)
			for i, result := range results {
				if !slices.Equal(result, want[i]) {
					t.Fatalf("result %d of %v and %v changed", i, short(x), short(y))
				}
				result = result[:cap(result)]
				for k := range result {
					result[k] = 0xdead
				}
			}
			if !slices.Equal(a, x) || !slices.Equal(b, y) || a[:len(x)+1][len(x)] != 77 || b[:len(y)+1][len(y)] != 88 {
				t.Fatalf("an argument changed: %v and %v", short(x), short(y))
			}
		}
	}
}

// A nil slice and an empty one are both 0.
func TestEmptyIsNil(t *testing.T) {
	for _, a := range []api.Nat{nil, {}, make(api.Nat, 0, 8)} {
		n, ok := natural.Uint(a)
		text, e := natural.Format(a)
		if !natural.Check(a) || n != 0 || !ok || natural.Bits(a) != 0 || natural.Compare(a, nil) != 0 || natural.Compare(nil, a) != 0 || text != "0" || e != api.OK {
			t.Errorf("%#v is not 0", a)
		}
	}
}
