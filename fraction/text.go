package fraction

import (
	"strings"

	"testgate/api"
	"testgate/natural"
)

// maxPlaces is the greatest number of digits after the point.
const maxPlaces = 30

// Round returns a as a decimal number with so many digits after the point, rounded down.
func Round(a api.Frac, digits int) (string, api.Errno) {
	if !Check(a) {
		return "", api.ErrInvalid
	}
	if digits < 0 || digits > maxPlaces {
		return "", api.ErrRange
	}
	whole, rest := divide(a.Num, a.Den)
	text, e := natural.Format(whole)
	if e == api.OK && digits > 0 {
		text += "." + decimals(rest, a.Den, digits)
	}
	return text, e
}

// Format returns a as a numerator and a denominator, or as a numerator alone.
func Format(a api.Frac) (string, api.Errno) {
	if !Check(a) {
		return "", api.ErrInvalid
	}
	text, e := natural.Format(a.Num)
	if e != api.OK || isOne(a.Den) {
		return text, e
	}
	den, e := natural.Format(a.Den)
	return text + "/" + den, e
}

// Parse returns the fraction of a text that Format returns, or of one that is not in lowest terms.
func Parse(s string) (api.Frac, api.Errno) {
	if len(s) > 2*api.MaxDigits+1 {
		return api.Frac{}, api.ErrLimit
	}
	left, right, found := strings.Cut(s, "/")
	if !found {
		right = "1"
	}
	num, errorLeft := natural.Parse(left)
	den, errorRight := natural.Parse(right)
	// natural.Parse does not look at the bytes of a part that is too long, so another / in it is found here.
	if strings.Contains(right, "/") || errorLeft == api.ErrText || errorRight == api.ErrText {
		return api.Frac{}, api.ErrText
	}
	if errorLeft != api.OK || errorRight != api.OK {
		return api.Frac{}, api.ErrLimit
	}
	return Make(num, den)
}

// decimals returns the first digits of rest / den after the point. rest is below den.
func decimals(rest, den api.Nat, digits int) string {
	var text strings.Builder
places:
	for range digits {
		tenfold, digit := rest, byte('0')
		// Ten times rest can have too many limbs: rest is added ten times, and den is taken away whenever that is possible.
		for times := 1; ; times++ {
			if times == 10 {
				text.WriteByte(digit)
				rest = tenfold
				continue places
			}
			sum, taken := addModulo(tenfold, rest, den)
			if taken {
				digit++
			}
			tenfold = sum
		}
	}
	return text.String()
}
