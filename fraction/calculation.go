package fraction

import (
	"testgate/api"
	"testgate/natural"
)

// calculation remembers the first error of its steps. Its steps are chosen such that one has too many limbs only if the result has.
type calculation struct{ e api.Errno }

// keep returns a and remembers e.
func (c *calculation) keep(a api.Nat, e api.Errno) api.Nat {
	if c.e == api.OK {
		c.e = e
	}
	return a
}

// result returns num / den, which is in lowest terms, or the error.
func (c *calculation) result(num, den api.Nat) (api.Frac, api.Errno) {
	if c.e != api.OK {
		return api.Frac{}, c.e
	}
	return api.Frac{Num: num, Den: den}, api.OK
}

// parts returns the denominator of a + b in lowest terms, and two numbers whose sum is the numerator: what a gives to it, rounded down, and what b gives to it, rounded up.
func (c *calculation) parts(a, b api.Frac) (partA, partB, den api.Nat) {
	common := c.keep(natural.Gcd(a.Den, b.Den))
	factorA, factorB := quotient(b.Den, common), quotient(a.Den, common)
	// a + b is (a.Num * factorA + b.Num * factorB) / (common * factorA * factorB). Since a and b are in lowest terms, all that can be cancelled is a divisor of common.
	_, restA := c.divideProduct(a.Num, factorA, common)
	_, restB := c.divideProduct(b.Num, factorB, common)
	rest, _ := addModulo(restA, restB, common)
	cancelled := c.keep(natural.Gcd(rest, common))
	den = c.keep(natural.Mul(factorB, quotient(b.Den, cancelled)))
	partA, _ = c.divideProduct(a.Num, factorA, cancelled)
	partB, restB = c.divideProduct(b.Num, factorB, cancelled)
	if len(restB) > 0 {
		partB = c.keep(natural.Add(partB, natural.Of(1)))
	}
	return partA, partB, den
}

// divideProduct returns the quotient of x * y and divisor, rounded down, and the remainder. The product can have too many limbs, but divisor * y has not.
func (c *calculation) divideProduct(x, y, divisor api.Nat) (q, r api.Nat) {
	whole, rest := divide(x, divisor)
	more, r := divide(c.keep(natural.Mul(rest, y)), divisor)
	return c.keep(natural.Add(c.keep(natural.Mul(whole, y)), more)), r
}

// addModulo returns the remainder of a + b and modulus, and whether the sum is not below modulus. a is below modulus, and b is at most modulus; their sum can have too many limbs.
func addModulo(a, b, modulus api.Nat) (api.Nat, bool) {
	gap, _ := natural.Sub(modulus, b)
	if natural.Compare(a, gap) < 0 {
		sum, _ := natural.Add(a, b)
		return sum, false
	}
	rest, _ := natural.Sub(a, gap)
	return rest, true
}
