package natural

import (
	"slices"
	"strconv"
	"strings"

	"testgate/api"
)

// A part of a text is partDigits decimal digits: as many as always fit a limb.
const (
	partDigits = 9
	partValues = 1_000_000_000
)

// Format returns the decimal digits of a.
func Format(a api.Nat) (string, api.Errno) {
	if !Check(a) {
		return "", api.ErrInvalid
	}
	if len(a) == 0 {
		return "0", api.OK
	}
	var parts []string
	for rest := a; len(rest) > 0; {
		quotient, part := dividedByLimb(rest, partValues)
		digits := strconv.FormatUint(uint64(part), 10)
		parts = append(parts, strings.Repeat("0", partDigits-len(digits))+digits)
		rest = quotient
	}
	return strings.TrimLeft(joinBackward(parts...), "0"), api.OK
}

// Parse returns the number of a string of decimal digits.
func Parse(s string) (api.Nat, api.Errno) {
	if len(s) > api.MaxDigits {
		return nil, api.ErrLimit
	}
	if !isNumeral(s) {
		return nil, api.ErrText
	}
	var value api.Nat
	for i := range len(s) {
		value = appendDigit(value, s[i]-'0')
		if len(value) > api.MaxLimbs {
			return nil, api.ErrLimit
		}
	}
	return value, api.OK
}

// isNumeral reports whether s is decimal digits without a leading zero before another digit.
func isNumeral(s string) bool {
	if s == "" || len(s) > 1 && s[0] == '0' {
		return false
	}
	for i := range len(s) {
		if s[i] < '0' || s[i] > '9' {
			return false
		}
	}
	return true
}

// appendDigit returns 10 times value plus digit. It may write to the memory of value.
func appendDigit(value api.Nat, digit byte) api.Nat {
	carry := uint64(digit)
	for i, limb := range value {
		carry += uint64(limb) * 10
		value[i] = uint32(carry)
		carry >>= limbBits
	}
	if carry != 0 {
		value = append(value, uint32(carry))
	}
	return value
}

// dividedByLimb returns the quotient of a and divisor, rounded down, and the remainder.
func dividedByLimb(a api.Nat, divisor uint32) (api.Nat, uint32) {
	quotient := make([]uint32, len(a))
	rest := uint64(0)
	for i := len(a) - 1; i >= 0; i-- {
		rest = rest<<limbBits | uint64(a[i])
		quotient[i] = uint32(rest / uint64(divisor))
		rest %= uint64(divisor)
	}
	return trimmed(quotient), uint32(rest)
}

// joinBackward joins parts, the last one first.
func joinBackward(parts ...string) string {
	var text strings.Builder
	for _, part := range slices.Backward(parts) {
		text.WriteString(part)
	}
	return text.String()
}
