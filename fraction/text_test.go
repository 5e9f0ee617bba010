package fraction_test

import (
	"math"
	"math/big"
	"strings"
	"testing"

	"testgate/api"
	"testgate/fraction"
)

// rounded returns what Round has to return.
func rounded(a api.Frac, digits int) string {
	scaled := product(toBig(a.Num), power(10, int64(digits), 0))
	text := scaled.Quo(scaled, toBig(a.Den)).String()
	if digits == 0 {
		return text
	}
	text = strings.Repeat("0", max(0, digits+1-len(text))) + text
	return text[:len(text)-digits] + "." + text[len(text)-digits:]
}

func TestRound(t *testing.T) {
	list := append(small(), every(3, wide())...)
	list = append(list, of(full(-1), full(0)), of(full(0), full(-1)), of(power(2, 4095, 0), full(0)), ints(999999999999, 1000000000000), ints(1, 1000000), ints(1001, 100))
	for _, a := range list {
		for _, digits := range []int{0, 1, 2, 7, 29, 30} {
			if got, e := fraction.Round(a, digits); got != rounded(a, digits) || e != api.OK {
				t.Errorf("Round of %s to %d digits: %.60s, error %d", text(a), digits, got, e)
			}
		}
	}
	for _, c := range []struct {
		a      api.Frac
		digits int
		want   string
	}{
		{ints(2, 3), 4, "0.6666"}, {ints(2, 3), 0, "0"}, {ints(0, 1), 0, "0"}, {ints(0, 1), 3, "0.000"}, {ints(5, 1), 2, "5.00"}, {ints(19, 10), 0, "1"}, {ints(1001, 100), 3, "10.010"},
		{of(full(-1), full(0)), 30, "0." + strings.Repeat("9", 30)}, {of(one(), full(0)), 30, "0." + strings.Repeat("0", 30)},
	} {
		if got, e := fraction.Round(c.a, c.digits); got != c.want || e != api.OK {
			t.Errorf("Round of %s to %d digits: %s, error %d", text(c.a), c.digits, got, e)
		}
	}
}

func TestRoundErrors(t *testing.T) {
	outside := []int{-1, 31, -30, math.MinInt, math.MaxInt}
	for _, a := range []api.Frac{ints(0, 1), ints(1, 3), of(full(0), one())} {
		for _, digits := range outside {
			if got, e := fraction.Round(a, digits); got != "" || e != api.ErrRange {
				t.Errorf("Round of %s to %d digits: %s, error %d", text(a), digits, got, e)
			}
		}
	}
	for _, a := range malformed() {
		for _, digits := range append(outside, 0, 1, 30) {
			if got, e := fraction.Round(a, digits); got != "" || e != api.ErrInvalid {
				t.Errorf("Round of %s to %d digits: %s, error %d", text(a), digits, got, e)
			}
		}
	}
}

func TestFormat(t *testing.T) {
	for _, a := range append(small(), wide()...) {
		want := toRat(a).RatString()
		if got, e := fraction.Format(a); got != want || e != api.OK {
			t.Errorf("Format of %s: %.40s, error %d", text(a), got, e)
		}
	}
	for _, c := range []struct {
		a    api.Frac
		want string
	}{{ints(0, 1), "0"}, {ints(4, 1), "4"}, {ints(1, 4), "1/4"}, {api.Frac{Num: api.Nat{5}, Den: api.Nat{1, 1}}, "5/4294967297"}} {
		if got, e := fraction.Format(c.a); got != c.want || e != api.OK {
			t.Errorf("Format of %s: %s, error %d", text(c.a), got, e)
		}
	}
	for _, a := range malformed() {
		if got, e := fraction.Format(a); got != "" || e != api.ErrInvalid {
			t.Errorf("Format of %s: %.40s, error %d", text(a), got, e)
		}
	}
}

func TestParse(t *testing.T) {
	greatest, beyond := full(0).String(), full(1).String()
	for _, c := range []struct {
		s    string
		want api.Frac
	}{
		{"0", ints(0, 1)}, {"0/1", ints(0, 1)}, {"0/5", ints(0, 1)}, {"0/" + greatest, ints(0, 1)}, {"7", ints(7, 1)}, {"7/1", ints(7, 1)}, {"7/7", ints(1, 1)}, {"6/4", ints(3, 2)}, {"4/6", ints(2, 3)}, {"1/18446744073709551616", of(one(), power(2, 64, 0))},
		{greatest, of(full(0), one())}, {"1/" + greatest, of(one(), full(0))}, {greatest + "/" + greatest, ints(1, 1)}, {greatest + "/" + full(-1).String(), of(full(0), full(-1))},
	} {
		if got, e := fraction.Parse(c.s); !same(got, c.want) || e != api.OK {
			t.Errorf("Parse of %.40s: %s, error %d", c.s, text(got), e)
		}
	}
	for _, s := range []string{beyond, beyond + "/1", "1/" + beyond, beyond + "/" + beyond, beyond + "/0"} {
		if got, e := fraction.Parse(s); !same(got, api.Frac{}) || e != api.ErrLimit {
			t.Errorf("Parse of %.40s (%d bytes): %s, error %d", s, len(s), text(got), e)
		}
	}
}

func TestParseErrors(t *testing.T) {
	digits := strings.Repeat("1", api.MaxDigits)
	letters := strings.Repeat("x", api.MaxDigits)
	for _, c := range []struct {
		s string
		e api.Errno
	}{
		{"", api.ErrText}, {"/", api.ErrText}, {"1/", api.ErrText}, {"/1", api.ErrText}, {"//", api.ErrText}, {"1//2", api.ErrText}, {"1/2/", api.ErrText}, {"/1/2", api.ErrText}, {"1/2/3", api.ErrText}, {"1/1/0", api.ErrText},
		{"01", api.ErrText}, {"01/2", api.ErrText}, {"1/02", api.ErrText}, {"1/00", api.ErrText}, {"00/1", api.ErrText}, {"-1", api.ErrText}, {"-1/2", api.ErrText}, {"1/-2", api.ErrText}, {"+1/2", api.ErrText},
		{" 1/2", api.ErrText}, {"1 /2", api.ErrText}, {"1/ 2", api.ErrText}, {"1/2 ", api.ErrText}, {"1.5", api.ErrText}, {"0.5/1", api.ErrText}, {"1\\2", api.ErrText}, {"1:2", api.ErrText}, {"a/b", api.ErrText}, {"1/2\n", api.ErrText}, {"\xff/1", api.ErrText}, {"1\u20442", api.ErrText},
		{"0/0", api.ErrDivide}, {"1/0", api.ErrDivide}, {full(0).String() + "/0", api.ErrDivide}, {"x/0", api.ErrText}, {"/0", api.ErrText}, {"01/0", api.ErrText},
		// 2 * MaxDigits + 1 bytes may be read; with one more, the bytes do not count.
		{digits + "/" + digits, api.ErrLimit}, {letters + "/" + digits, api.ErrText}, {digits + "/" + letters, api.ErrText}, {letters + "/" + digits + "1", api.ErrLimit}, {digits + "/" + letters + "x", api.ErrLimit}, {digits + "/" + digits + "1", api.ErrLimit},
		{strings.Repeat("/", 2*api.MaxDigits+1), api.ErrText}, {strings.Repeat("/", 2*api.MaxDigits+2), api.ErrLimit}, {strings.Repeat("x", 1<<20), api.ErrLimit},
		// A part with more than MaxDigits bytes is ErrLimit, whatever its bytes are, unless the other part is ErrText or there is another /.
		{digits + "1", api.ErrLimit}, {letters + "x", api.ErrLimit}, {letters + "x/2", api.ErrLimit}, {"2/" + letters + "x", api.ErrLimit}, {letters + "x/0", api.ErrLimit}, {digits + "1/", api.ErrText}, {digits + "1/02", api.ErrText}, {"x/" + digits + "1", api.ErrText}, {"/" + digits + "1", api.ErrText},
		{"1/1/" + digits, api.ErrText}, {"1/" + digits + "/1", api.ErrText}, {"1/" + digits + "/", api.ErrText}, {digits + "1/1/1", api.ErrText}, {strings.Repeat("1/", api.MaxDigits) + "1", api.ErrText},
	} {
		if got, e := fraction.Parse(c.s); !same(got, api.Frac{}) || e != c.e {
			t.Errorf("Parse of %.40q (%d bytes): %s, error %d, not %d", c.s, len(c.s), text(got), e, c.e)
		}
	}
}

// Each byte that is neither a digit nor / is ErrText, in both parts.
func TestParseBytes(t *testing.T) {
	for c := range 256 {
		if c >= '0' && c <= '9' {
			continue
		}
		for _, s := range []string{"3" + string([]byte{byte(c)}) + "2", "5/3" + string([]byte{byte(c)}) + "2"} {
			want := api.ErrText
			if s == "3/2" {
				want = api.OK
			}
			if _, e := fraction.Parse(s); e != want {
				t.Errorf("Parse of %q: error %d", s, e)
			}
		}
	}
}

func TestParseOfFormat(t *testing.T) {
	for _, a := range append(small(), wide()...) {
		s, e := fraction.Format(a)
		got, f := fraction.Parse(s)
		if !same(got, a) || e != api.OK || f != api.OK {
			t.Errorf("Parse of Format of %s: %s, errors %d and %d", text(a), text(got), e, f)
		}
	}
}

// A text that is not in lowest terms is the same fraction.
func TestParseReduces(t *testing.T) {
	for _, a := range small() {
		for factor := range int64(7) {
			num, den := product(toBig(a.Num), big.NewInt(factor+1)), product(toBig(a.Den), big.NewInt(factor+1))
			if got, e := fraction.Parse(num.String() + "/" + den.String()); !same(got, a) || e != api.OK {
				t.Errorf("Parse of %s/%s: %s, error %d", num, den, text(got), e)
			}
		}
	}
}
