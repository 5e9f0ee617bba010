package fraction

import (
	"slices"

	"testgate/api"
	"testgate/natural"
)

// maxPower is the greatest exponent of Pow.
const maxPower = 65536

// Add returns a + b.
func Add(a, b api.Frac) (api.Frac, api.Errno) {
	if !Check(a) || !Check(b) {
		return api.Frac{}, api.ErrInvalid
	}
	return add(a, b)
}

// Sub returns a - b.
func Sub(a, b api.Frac) (api.Frac, api.Errno) {
	if !Check(a) || !Check(b) {
		return api.Frac{}, api.ErrInvalid
	}
	if compare(a, b) < 0 {
		return api.Frac{}, api.ErrNegative
	}
	return subtract(a, b)
}

// Mul returns a * b.
func Mul(a, b api.Frac) (api.Frac, api.Errno) {
	if !Check(a) || !Check(b) {
		return api.Frac{}, api.ErrInvalid
	}
	return multiply(a, b)
}

// Div returns a / b.
func Div(a, b api.Frac) (api.Frac, api.Errno) {
	if !Check(a) || !Check(b) {
		return api.Frac{}, api.ErrInvalid
	}
	if len(b.Num) == 0 {
		return api.Frac{}, api.ErrDivide
	}
	return multiply(a, api.Frac{Num: b.Den, Den: b.Num})
}

// Pow returns a to the power of n.
func Pow(a api.Frac, n int) (api.Frac, api.Errno) {
	if !Check(a) {
		return api.Frac{}, api.ErrInvalid
	}
	if n < 0 || n > maxPower {
		return api.Frac{}, api.ErrRange
	}
	var c calculation
	num := c.keep(natural.Pow(a.Num, n))
	den := c.keep(natural.Pow(a.Den, n))
	return c.result(num, den)
}

// Sum returns the sum of all elements of l.
func Sum(l []api.Frac) (api.Frac, api.Errno) {
	if slices.ContainsFunc(l, func(a api.Frac) bool { return !Check(a) }) {
		return api.Frac{}, api.ErrInvalid
	}
	e := api.OK
	total := fold(l, api.Frac{Den: natural.Of(1)}, func(total, a api.Frac) api.Frac {
		if e == api.OK {
			total, e = add(total, a)
		}
		return total
	})
	return total, e
}

// fold returns what f makes of start and the elements of l, one after the other.
func fold(l []api.Frac, start api.Frac, f func(total, a api.Frac) api.Frac) api.Frac {
	total := start
	for _, a := range l {
		total = f(total, a)
	}
	return total
}

// add is Add for fractions that are known to be well-formed.
func add(a, b api.Frac) (api.Frac, api.Errno) {
	var c calculation
	partA, partB, den := c.parts(a, b)
	num := c.keep(natural.Add(partA, partB))
	return c.result(num, den)
}

// subtract is Sub for fractions that are known to be well-formed, where b is at most a.
func subtract(a, b api.Frac) (api.Frac, api.Errno) {
	var c calculation
	// The integer parts are subtracted first: what is left has no numerator above its denominator, however large a and b are.
	wholeA, restA := divide(a.Num, a.Den)
	wholeB, restB := divide(b.Num, b.Den)
	whole := c.keep(natural.Sub(wholeA, wholeB))
	// Instead of the rest of b, its complement to 1 is added, so that one 1 more has to be taken away.
	complement := c.keep(natural.Sub(b.Den, restB))
	partA, partB, den := c.parts(api.Frac{Num: restA, Den: a.Den}, api.Frac{Num: complement, Den: b.Den})
	num, taken := addModulo(partA, partB, den)
	if !taken {
		whole = c.keep(natural.Sub(whole, natural.Of(1)))
	}
	num = c.keep(natural.Add(c.keep(natural.Mul(whole, den)), num))
	return c.result(num, den)
}

// multiply is Mul for fractions that are known to be well-formed.
func multiply(a, b api.Frac) (api.Frac, api.Errno) {
	// A numerator has common factors with the other denominator only. Without them, the products are in lowest terms.
	left, right := reduced(a.Num, b.Den), reduced(b.Num, a.Den)
	var c calculation
	num := c.keep(natural.Mul(left.Num, right.Num))
	den := c.keep(natural.Mul(left.Den, right.Den))
	return c.result(num, den)
}
