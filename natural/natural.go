// Package natural is layer 1: it computes with natural numbers of up to MaxLimbs limbs.
package natural

import (
	"math/bits"

	"testgate/api"
)

// limbBits is the number of binary digits of a limb.
const limbBits = 32

// Of returns the number with the value n.
func Of(n uint64) api.Nat {
	return trimmed(api.Nat{uint32(n), uint32(n >> limbBits)})
}

// Check reports whether a is well-formed.
func Check(a api.Nat) bool {
	if len(a) == 0 {
		return true
	}
	return len(a) <= api.MaxLimbs && a[len(a)-1] != 0
}

// Uint returns the value of a, and whether a is well-formed and below 2^64.
func Uint(a api.Nat) (uint64, bool) {
	if !Check(a) || Bits(a) > 64 {
		return 0, false
	}
	value := uint64(0)
	for i, limb := range a {
		value |= uint64(limb) << (limbBits * i)
	}
	return value, true
}

// Bits returns the number of binary digits of a.
func Bits(a api.Nat) int {
	if len(a) == 0 || !Check(a) {
		return 0
	}
	last := len(a) - 1
	return limbBits*last + bits.Len32(a[last])
}

// Compare returns -1, 0 or 1 if a is less than, equal to or greater than b.
func Compare(a, b api.Nat) int {
	if !Check(a) || !Check(b) {
		return 0
	}
	return compare(a, b)
}

// compare is Compare for numbers that are known to be well-formed.
func compare(a, b api.Nat) int {
	if len(a) != len(b) {
		if len(a) < len(b) {
			return -1
		}
		return 1
	}
	for i := len(a) - 1; i >= 0; i-- {
		if a[i] < b[i] {
			return -1
		}
		if a[i] > b[i] {
			return 1
		}
	}
	return 0
}

// trimmed returns limbs without the zeros at its end, in the same memory.
func trimmed(limbs []uint32) api.Nat {
	n := len(limbs)
	for n > 0 && limbs[n-1] == 0 {
		n--
	}
	if n == 0 {
		return nil
	}
	return limbs[:n]
}

// limited returns limbs as a number, in the same memory, or ErrLimit if it has too many limbs.
func limited(limbs []uint32) (api.Nat, api.Errno) {
	result := trimmed(limbs)
	if len(result) > api.MaxLimbs {
		return nil, api.ErrLimit
	}
	return result, api.OK
}
