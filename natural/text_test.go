package natural_test

import (
	"math/big"
	"slices"
	"strings"
	"testing"

	"testgate/api"
	"testgate/natural"
)

func TestFormat(t *testing.T) {
	for _, a := range append(append(small(), wide()...), api.Nat{}) {
		if got, e := natural.Format(a); got != toBig(a).String() || e != api.OK {
			t.Errorf("Format of %v (%d limbs): %.40s, error %d", short(a), len(a), got, e)
		}
	}
	ten := big.NewInt(1)
	for n := range 1234 {
		want := "1" + strings.Repeat("0", n)
		if got, e := natural.Format(fromBig(ten)); got != want || e != api.OK {
			t.Errorf("Format of 10^%d: %.40s, error %d", n, got, e)
		}
		ten.Mul(ten, big.NewInt(10))
	}
	for _, a := range malformed() {
		if got, e := natural.Format(a); got != "" || e != api.ErrInvalid {
			t.Errorf("Format of %v (%d limbs): %.40s, error %d", short(a), len(a), got, e)
		}
	}
}

func TestParse(t *testing.T) {
	for _, c := range []struct {
		s    string
		want api.Nat
	}{
		{"0", nil}, {"1", api.Nat{1}}, {"9", api.Nat{9}}, {"10", api.Nat{10}}, {"1000000007", api.Nat{1_000_000_007}},
		{"4294967295", api.Nat{top}}, {"4294967296", api.Nat{0, 1}}, {"18446744073709551615", api.Nat{top, top}}, {"18446744073709551616", api.Nat{0, 0, 1}},
		{"10000000000000000000000000", api.Nat{0x4a000000, 0x16140148, 0x84595}},
	} {
		if got, e := natural.Parse(c.s); !slices.Equal(got, c.want) || e != api.OK {
			t.Errorf("Parse of %s: %v, error %d", c.s, got, e)
		}
	}
	// The greatest number has fewer than MaxDigits digits; one more than it has one limb too many.
	full := limbs(api.MaxLimbs, top)
	if got, e := natural.Parse(toBig(full).String()); !slices.Equal(got, full) || e != api.OK {
		t.Errorf("Parse of 2^4096 - 1: %v (%d limbs), error %d", short(got), len(got), e)
	}
	if got, e := natural.Parse(toBig(withTop(api.MaxLimbs+1, 1)).String()); len(got) > 0 || e != api.ErrLimit {
		t.Errorf("Parse of 2^4096: %v (%d limbs), error %d", short(got), len(got), e)
	}
}

func TestParseErrors(t *testing.T) {
	nines := strings.Repeat("9", api.MaxDigits)
	for _, c := range []struct {
		s string
		e api.Errno
	}{
		{"", api.ErrText}, {"00", api.ErrText}, {"01", api.ErrText}, {"007", api.ErrText}, {"0x1", api.ErrText}, {"+1", api.ErrText}, {"-1", api.ErrText}, {"-0", api.ErrText},
		{" 1", api.ErrText}, {"1 ", api.ErrText}, {"1_0", api.ErrText}, {"1.0", api.ErrText}, {"1e3", api.ErrText}, {"/", api.ErrText}, {":", api.ErrText}, {"1/", api.ErrText}, {"1:", api.ErrText},
		{"a", api.ErrText}, {"1a", api.ErrText}, {"a1", api.ErrText}, {"1\x00", api.ErrText}, {"\xb1", api.ErrText}, {"1\xff", api.ErrText}, {"\u0661", api.ErrText}, {"1\n", api.ErrText},
		// MaxDigits bytes may be read; one more is ErrLimit before the bytes are looked at.
		{strings.Repeat("0", api.MaxDigits), api.ErrText}, {strings.Repeat("x", api.MaxDigits), api.ErrText}, {"0" + nines[1:], api.ErrText}, {nines[1:] + "x", api.ErrText}, {nines, api.ErrLimit},
		{strings.Repeat("0", api.MaxDigits+1), api.ErrLimit}, {strings.Repeat("x", api.MaxDigits+1), api.ErrLimit}, {nines + "9", api.ErrLimit}, {strings.Repeat("1", 1<<20), api.ErrLimit},
	} {
		if got, e := natural.Parse(c.s); len(got) > 0 || e != c.e {
			t.Errorf("Parse of %.40q (%d bytes): %v, error %d, not %d", c.s, len(c.s), short(got), e, c.e)
		}
	}
}

// Each byte that is no digit is ErrText, wherever it stands.
func TestParseBytes(t *testing.T) {
	for c := range 256 {
		isDigit := c >= '0' && c <= '9'
		text := string([]byte{'1', byte(c), '2'})
		if _, e := natural.Parse(text); (e == api.OK) != isDigit || !isDigit && e != api.ErrText {
			t.Errorf("Parse of %q: error %d", text, e)
		}
	}
}
