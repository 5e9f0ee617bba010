package natural

import (
	"math"
	"math/bits"
	"slices"

	"testgate/api"
)

// Divide returns the quotient of a and b, rounded down, and the remainder.
func Divide(a, b api.Nat) (q, r api.Nat, e api.Errno) {
	if !Check(a) || !Check(b) {
		return nil, nil, api.ErrInvalid
	}
	if len(b) == 0 {
		return nil, nil, api.ErrDivide
	}
	q, r = divide(a, b)
	return q, r, api.OK
}

// Gcd returns the greatest common divisor of a and b.
func Gcd(a, b api.Nat) (api.Nat, api.Errno) {
	if !Check(a) || !Check(b) {
		return nil, api.ErrInvalid
	}
	x, y := slices.Clone(a), slices.Clone(b)
	for len(y) > 0 {
		_, rest := divide(x, y)
		x, y = y, rest
	}
	return x, api.OK
}

// divide is Divide for numbers that are known to be well-formed, where b is not 0.
func divide(a, b api.Nat) (quotient, remainder api.Nat) {
	if compare(a, b) < 0 {
		return nil, slices.Clone(a)
	}
	// The highest bit of the divisor is made 1, so that a guess by its highest limb is too great by 2 at most.
	shift := bits.LeadingZeros32(b[len(b)-1])
	divisor := shiftedUp(b, shift)[:len(b)]
	rest := shiftedUp(a, shift)
	digits := make([]uint32, len(a)-len(b)+1)
	for i := len(digits) - 1; i >= 0; i-- {
		digits[i] = takeDigit(rest[i:i+len(b)+1], divisor)
	}
	shiftDown(rest, shift)
	return trimmed(digits), trimmed(rest)
}

// takeDigit divides rest by divisor, which has one limb less: it returns the quotient, which fits one limb, and leaves the remainder in rest.
func takeDigit(rest, divisor []uint32) uint32 {
	last := len(divisor) - 1
	top := uint64(rest[last+1])<<limbBits | uint64(rest[last])
	guess := uint32(min(top/uint64(divisor[last]), math.MaxUint32))
	for negative := subtractFrom(rest, divisor, guess); negative; guess-- {
		negative = !addTo(rest, divisor)
	}
	return guess
}

// shiftedUp returns limbs times 2^shift, with one limb more. shift is below limbBits.
func shiftedUp(limbs []uint32, shift int) []uint32 {
	result := make([]uint32, len(limbs)+1)
	carry := uint64(0)
	for i, limb := range limbs {
		carry |= uint64(limb) << shift
		result[i] = uint32(carry)
		carry >>= limbBits
	}
	result[len(limbs)] = uint32(carry)
	return result
}

// shiftDown divides limbs by 2^shift, rounded down. shift is below limbBits.
func shiftDown(limbs []uint32, shift int) {
	carry := uint64(0)
	for i := len(limbs) - 1; i >= 0; i-- {
		carry = carry<<limbBits | uint64(limbs[i])
		limbs[i] = uint32(carry >> shift)
	}
}
