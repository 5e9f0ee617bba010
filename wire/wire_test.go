package wire_test

import (
	"bytes"
	"encoding/binary"
	"math"
	"math/big"
	"slices"
	"strings"
	"testing"

	"testgate/api"
	"testgate/wire"
)

// numbers returns the numbers around all powers of two, and many small ones.
func numbers() (out []uint64) {
	for n := range uint64(40000) {
		out = append(out, n)
	}
	for i := range 64 {
		for d := range uint64(5) {
			out = append(out, 1<<i+d-2)
		}
	}
	return append(out, math.MaxUint64, math.MaxUint64-1, math.MaxInt64, 0xAAAAAAAAAAAAAAAA)
}

// ints returns the ints of numbers, and their opposites.
func ints() (out []int) {
	for _, n := range numbers() {
		out = append(out, int(n), -int(n))
	}
	return append(out, math.MinInt)
}

// texts returns strings with lengths around those whose numbers become longer.
func texts() (out []string) {
	out = []string{"", "a", "\x00", "\x80", "\xFF\xF7\x01", "päth/a.dat", strings.Repeat("\x80\x00", 9)}
	for _, n := range []int{63, 64, 127, 128, 129, 255, 256, 16383, 16384, 40000} {
		out = append(out, strings.Repeat("x", n))
	}
	return out
}

func TestPutNumbers(t *testing.T) {
	for n, want := range map[uint64][]byte{0: {0}, 1: {1}, 127: {0x7F}, 128: {0x80, 1}, 300: {0xAC, 2}, 16383: {0xFF, 0x7F}, 16384: {0x80, 0x80, 1}} {
		if got := wire.PutUint(nil, n); !bytes.Equal(got, want) {
			t.Errorf("PutUint of %d: %x", n, got)
		}
	}
	for n, want := range map[int][]byte{0: {0}, -1: {1}, 1: {2}, -2: {3}, 2: {4}, -64: {0x7F}, 64: {0x80, 1}, math.MaxInt: append([]byte{0xFE}, binary.AppendUvarint(nil, math.MaxUint64)[1:]...), math.MinInt: binary.AppendUvarint(nil, math.MaxUint64)} {
		if got := wire.PutInt(nil, n); !bytes.Equal(got, want) {
			t.Errorf("PutInt of %d: %x", n, got)
		}
	}
	for _, n := range numbers() {
		if got := wire.PutUint([]byte{0x80}, n); !bytes.Equal(got, binary.AppendUvarint([]byte{0x80}, n)) {
			t.Errorf("PutUint of %d: %x", n, got)
		}
	}
	for _, n := range ints() {
		if got := wire.PutInt([]byte{0x80}, n); !bytes.Equal(got, binary.AppendVarint([]byte{0x80}, int64(n))) {
			t.Errorf("PutInt of %d: %x", n, got)
		}
	}
}

func TestPutText(t *testing.T) {
	for s, want := range map[string][]byte{"": {0}, "a": {1, 'a'}, "\x00\xFF": {2, 0, 0xFF}, strings.Repeat("x", 128): append([]byte{0x80, 1}, bytes.Repeat([]byte{'x'}, 128)...)} {
		if got := wire.PutText(nil, s); !bytes.Equal(got, want) {
			t.Errorf("PutText of %q: %x", s, got)
		}
	}
	for _, s := range texts() {
		want := append(binary.AppendUvarint([]byte{9}, uint64(len(s))), s...)
		if got := wire.PutText([]byte{9}, s); !bytes.Equal(got, want) {
			t.Errorf("PutText of %.20q: %.20x", s, got)
		}
	}
}

// TestPutLeaves checks that the bytes before stay as they are, with what lies behind them, and that the result is memory of its own.
func TestPutLeaves(t *testing.T) {
	puts := map[string]func(l []byte) []byte{
		"PutUint": func(l []byte) []byte { return wire.PutUint(l, 300) },
		"PutInt":  func(l []byte) []byte { return wire.PutInt(l, -300) },
		"PutText": func(l []byte) []byte { return wire.PutText(l, "text") },
		"no text": func(l []byte) []byte { return wire.PutText(l, "") },
	}
	for name, put := range puts {
		for length := range 40 {
			all := bytes.Repeat([]byte{0xE7}, 60)
			first, second := put(all[:length]), put(all[:length])
			if !bytes.Equal(first[:length], all[:length]) || !bytes.Equal(first, second) {
				t.Errorf("%s after %d bytes: %x", name, length, first)
			}
			for _, out := range [][]byte{first[:cap(first)], second[:cap(second)]} {
				for i := range out {
					out[i] = 0x11
				}
			}
			if !bytes.Equal(all, bytes.Repeat([]byte{0xE7}, 60)) {
				t.Errorf("%s after %d bytes changes its argument", name, length)
			}
			first[0] = 0x22
			if second[0] == 0x22 {
				t.Errorf("%s after %d bytes gives the same memory twice", name, length)
			}
		}
		if !bytes.Equal(put(nil), put([]byte{})) {
			t.Errorf("%s tells nil from no bytes", name)
		}
	}
}

// uintOf returns what Uint has to return.
func uintOf(l []byte, at int) (n uint64, next int, e api.Errno) {
	if at < 0 || at > len(l) {
		return 0, 0, api.ErrRange
	}
	value := new(big.Int)
	for i, b := range l[at:] {
		value.Add(value, new(big.Int).Lsh(big.NewInt(int64(b%128)), uint(7*i)))
		if b >= 128 {
			continue
		}
		if !value.IsUint64() || !bytes.Equal(l[at:at+i+1], binary.AppendUvarint(nil, value.Uint64())) {
			return 0, 0, api.ErrText
		}
		return value.Uint64(), at + i + 1, api.OK
	}
	return 0, 0, api.ErrEnd
}

// intOf returns what Int has to return.
func intOf(l []byte, at int) (n, next int, e api.Errno) {
	m, next, e := uintOf(l, at)
	if m%2 == 1 {
		return -int(m/2) - 1, next, e
	}
	return int(m / 2), next, e
}

// compareNumbers checks what Uint and Int say of bytes.
func compareNumbers(t *testing.T, l []byte, at int) {
	t.Helper()
	before := slices.Clone(l)
	n, next, e := wire.Uint(l, at)
	if wantN, wantNext, wantE := uintOf(l, at); n != wantN || next != wantNext || e != wantE {
		t.Errorf("Uint of %x at %d: %d, %d, error %d instead of %d, %d, error %d", l, at, n, next, e, wantN, wantNext, wantE)
	}
	m, next, e := wire.Int(l, at)
	if wantM, wantNext, wantE := intOf(l, at); m != wantM || next != wantNext || e != wantE {
		t.Errorf("Int of %x at %d: %d, %d, error %d instead of %d, %d, error %d", l, at, m, next, e, wantM, wantNext, wantE)
	}
	if !bytes.Equal(l, before) {
		t.Errorf("Uint or Int changes %x at %d", before, at)
	}
}

func TestNumbersOfAllBytes(t *testing.T) {
	for n := range 1 << 16 {
		compareNumbers(t, []byte{byte(n), byte(n >> 8)}, 0)
	}
	some := []byte{0, 1, 2, 0x7F, 0x80, 0x81, 0xFF}
	for _, fill := range []byte{0x80, 0x81, 0xC0, 0xFF} {
		for length := range 24 {
			l := bytes.Repeat([]byte{fill}, length)
			for _, a := range some {
				for _, b := range some {
					for _, c := range some {
						compareNumbers(t, append(l[:length:length], a, b, c), 0)
					}
				}
			}
		}
	}
}

func TestNumbersAtAllIndices(t *testing.T) {
	l := []byte{5, 0x80, 1, 0x80, 0, 0xFF, 0xFF, 3, 0, 0x80}
	outside := []int{-1, -2, len(l) + 1, len(l) + 2, math.MinInt, math.MaxInt}
	for at := range len(l) + 1 {
		compareNumbers(t, l, at)
	}
	for _, at := range outside {
		compareNumbers(t, l, at)
		compareNumbers(t, nil, at)
	}
	compareNumbers(t, nil, 0)
	compareNumbers(t, nil, 1)
	compareNumbers(t, []byte{}, 0)
	long := append(bytes.Repeat([]byte{0x80}, 100000), 1)
	compareNumbers(t, long[:50000], 40000)
	if _, _, e := wire.Uint(long, 0); e != api.ErrText {
		t.Errorf("Uint of a very long number: error %d", e)
	}
	if _, _, e := wire.Uint(long[:100000], 0); e != api.ErrEnd {
		t.Errorf("Uint of a very long number without an end: error %d", e)
	}
}

func TestText(t *testing.T) {
	l := []byte{3, 'a', 'b', 'c', 0, 0x80, 1, 0x80, 0, 2, 'x'}
	for _, c := range []struct {
		at, most int
		s        string
		next     int
		e        api.Errno
	}{
		{0, 3, "abc", 4, api.OK}, {0, 4, "abc", 4, api.OK}, {0, math.MaxInt, "abc", 4, api.OK}, {4, 0, "", 5, api.OK}, {4, math.MaxInt, "", 5, api.OK},
		{0, 2, "", 0, api.ErrLimit}, {0, 0, "", 0, api.ErrLimit}, {0, -1, "", 0, api.ErrLimit}, {4, -1, "", 0, api.ErrLimit}, {4, math.MinInt, "", 0, api.ErrLimit},
		{5, 128, "", 0, api.ErrEnd}, {5, 127, "", 0, api.ErrLimit}, {9, 2, "", 0, api.ErrEnd}, {9, 1, "", 0, api.ErrLimit}, {9, -1, "", 0, api.ErrLimit},
		{7, 9, "", 0, api.ErrText}, {7, -1, "", 0, api.ErrText}, {11, 9, "", 0, api.ErrEnd}, {11, -1, "", 0, api.ErrEnd},
		{-1, 9, "", 0, api.ErrRange}, {12, 9, "", 0, api.ErrRange}, {12, -1, "", 0, api.ErrRange}, {math.MinInt, -1, "", 0, api.ErrRange}, {math.MaxInt, 0, "", 0, api.ErrRange},
	} {
		if s, next, e := wire.Text(l, c.at, c.most); s != c.s || next != c.next || e != c.e {
			t.Errorf("Text at %d of at most %d bytes: %q, %d, error %d", c.at, c.most, s, next, e)
		}
	}
	if s, next, e := wire.Text(nil, 0, 9); s != "" || next != 0 || e != api.ErrEnd {
		t.Errorf("Text of nothing: %q, %d, error %d", s, next, e)
	}
	if s, next, e := wire.Text([]byte{0x80}, 0, -1); s != "" || next != 0 || e != api.ErrEnd {
		t.Errorf("Text of a part of a number: %q, %d, error %d", s, next, e)
	}
}

// TestHugeText has lengths that no int holds, or that reach beyond all ints together with the index.
func TestHugeText(t *testing.T) {
	for _, c := range []struct {
		length uint64
		most   int
		e      api.Errno
	}{
		{math.MaxInt64, math.MaxInt, api.ErrEnd}, {math.MaxInt64, math.MaxInt - 1, api.ErrLimit}, {math.MaxInt64 - 5, math.MaxInt, api.ErrEnd},
		{1 << 63, math.MaxInt, api.ErrLimit}, {math.MaxUint64, math.MaxInt, api.ErrLimit}, {math.MaxUint64, -1, api.ErrLimit}, {1<<63 + 1, 1, api.ErrLimit},
	} {
		l := append(binary.AppendUvarint([]byte{1, 2}, c.length), "text"...)
		if s, next, e := wire.Text(l, 2, c.most); s != "" || next != 0 || e != c.e {
			t.Errorf("Text of %d bytes, of at most %d: %q, %d, error %d", c.length, c.most, s, next, e)
		}
	}
}

func TestTextIsACopy(t *testing.T) {
	l := wire.PutText(nil, "text")
	s, _, _ := wire.Text(l, 0, 4)
	if !bytes.Equal(l, []byte("\x04text")) {
		t.Errorf("Text changes its argument to %x", l)
	}
	clear(l)
	if s != "text" {
		t.Errorf("the text becomes %q", s)
	}
}

// TestReadBack checks P3.4 for numbers and strings, one after the other and behind other bytes.
func TestReadBack(t *testing.T) {
	l := []byte{0xFF, 0x80}
	var some []uint64
	for i, n := range numbers() {
		if i%200 == 0 || n > 1<<15 {
			some = append(some, n)
		}
	}
	for _, n := range some {
		l = wire.PutInt(wire.PutUint(l, n), int(n))
	}
	for _, s := range texts() {
		l = wire.PutText(l, s)
	}
	at := 2
	for _, n := range some {
		m, next, e := wire.Uint(l, at)
		k, after, f := wire.Int(l, next)
		if m != n || k != int(n) || e != api.OK || f != api.OK {
			t.Fatalf("%d is read back as %d and %d, errors %d and %d", n, m, k, e, f)
		}
		at = after
	}
	for _, s := range texts() {
		got, next, e := wire.Text(l, at, len(s))
		if got != s || e != api.OK {
			t.Fatalf("%.20q is read back as %.20q, error %d", s, got, e)
		}
		at = next
	}
	if at != len(l) {
		t.Errorf("%d of %d bytes are read back", at, len(l))
	}
	for _, n := range ints() {
		if m, _, e := wire.Int(wire.PutInt(nil, n), 0); m != n || e != api.OK {
			t.Errorf("%d is read back as %d, error %d", n, m, e)
		}
	}
}
