package natural

import (
	"math/bits"
	"slices"

	"testgate/api"
)

// maxPower is the greatest exponent of Pow.
const maxPower = 65536

// Add returns a + b.
func Add(a, b api.Nat) (api.Nat, api.Errno) {
	if !Check(a) || !Check(b) {
		return nil, api.ErrInvalid
	}
	sum := make([]uint32, max(len(a), len(b))+1)
	copy(sum, a)
	addTo(sum, b)
	return limited(sum)
}

// Sub returns a - b.
func Sub(a, b api.Nat) (api.Nat, api.Errno) {
	if !Check(a) || !Check(b) {
		return nil, api.ErrInvalid
	}
	if compare(a, b) < 0 {
		return nil, api.ErrNegative
	}
	difference := make([]uint32, len(a))
	copy(difference, a)
	subtractFrom(difference, b, 1)
	return limited(difference)
}

// Mul returns a * b.
func Mul(a, b api.Nat) (api.Nat, api.Errno) {
	if !Check(a) || !Check(b) {
		return nil, api.ErrInvalid
	}
	return multiply(a, b)
}

// Pow returns a to the power of n.
func Pow(a api.Nat, n int) (api.Nat, api.Errno) {
	if !Check(a) {
		return nil, api.ErrInvalid
	}
	if n < 0 || n > maxPower {
		return nil, api.ErrRange
	}
	// Every power on the way is one of an exponent that is at most n, so it is too long only if the result is.
	power, e := Of(1), api.OK
	for i := bits.Len(uint(n)) - 1; i >= 0 && e == api.OK; i-- {
		power, e = multiply(power, power)
		if e == api.OK && n>>i&1 == 1 {
			power, e = multiply(power, a)
		}
	}
	return power, e
}

// multiply is Mul for numbers that are known to be well-formed.
func multiply(a, b api.Nat) (api.Nat, api.Errno) {
	var limbs [2 * api.MaxLimbs]uint32
	addProduct := func(at int, factor uint32) {
		carry := uint64(0)
		for i, limb := range b {
			carry += uint64(limbs[at+i]) + uint64(limb)*uint64(factor)
			limbs[at+i] = uint32(carry)
			carry >>= limbBits
		}
		limbs[at+len(b)] = uint32(carry)
	}
	for at, factor := range a {
		addProduct(at, factor)
	}
	return limited(slices.Clone(limbs[:len(a)+len(b)]))
}

// addTo adds b to a, which is at least as long, and reports whether the sum needs one more limb than a has.
func addTo(a, b []uint32) bool {
	carry := uint64(0)
	for i := range a {
		carry += uint64(a[i])
		if i < len(b) {
			carry += uint64(b[i])
		}
		a[i] = uint32(carry)
		carry >>= limbBits
	}
	return carry != 0
}

// subtractFrom subtracts b times factor from a, which is at least as long as b, and reports whether the difference is negative: a is then too great by 2^32 to the power of its length.
func subtractFrom(a, b []uint32, factor uint32) bool {
	borrow := uint64(0)
	for i := range a {
		if i < len(b) {
			borrow += uint64(b[i]) * uint64(factor)
		}
		low := uint32(borrow)
		borrow >>= limbBits
		if a[i] < low {
			borrow++
		}
		a[i] -= low
	}
	return borrow != 0
}
