package wire_test

import (
	"bytes"
	"encoding/binary"
	"hash/adler32"
	"math"
	"slices"
	"testing"

	"testgate/api"
	"testgate/wire"
)

// payload returns so many bytes of all kinds.
func payload(length int) []byte {
	out := make([]byte, length)
	state := uint32(length)
	for i := range out {
		state = state*1664525 + 1013904223
		out[i] = byte(state >> 24)
	}
	return out
}

// payloads returns bytes with lengths around those whose numbers become longer.
func payloads() (out [][]byte) {
	for _, n := range []int{0, 1, 2, 3, 126, 127, 128, 129, 300, 16383, 16384, 16385} {
		out = append(out, payload(n), bytes.Repeat([]byte{0xF7}, n), make([]byte, n))
	}
	return out
}

// framed returns what Frame has to return.
func framed(kind byte, payload []byte) []byte {
	l := append(binary.AppendUvarint([]byte{0xF7, kind}, uint64(len(payload))), payload...)
	return binary.LittleEndian.AppendUint32(l, adler32.Checksum(l[1:]))
}

func TestChecksum(t *testing.T) {
	for s, want := range map[string]uint32{"": 1, "\x00": 1 + 1<<16, "\x01\x02": 4 + 6<<16, "\x02\x01": 4 + 7<<16, "\x00\x00\x00": 1 + 3<<16} {
		if got := wire.Checksum([]byte(s)); got != want {
			t.Errorf("Checksum of %x: %x", s, got)
		}
	}
	all := bytes.Repeat([]byte{0xFF}, 2000)
	for length := range all {
		if got := wire.Checksum(all[:length]); got != adler32.Checksum(all[:length]) {
			t.Errorf("Checksum of %d bytes 255: %x", length, got)
		}
	}
	for _, l := range append(payloads(), payload(1<<20), bytes.Repeat([]byte{0xFF}, 1<<21), make([]byte, 65521), make([]byte, 65522)) {
		before := slices.Clone(l)
		if got := wire.Checksum(l); got != adler32.Checksum(l) || !bytes.Equal(l, before) {
			t.Errorf("Checksum of %d bytes from %.9x: %x", len(l), l, got)
		}
	}
}

// TestChecksumAtTheModulus has a sum of bytes that makes a, and then b, 0 and one less than the modulus.
func TestChecksumAtTheModulus(t *testing.T) {
	l := append(bytes.Repeat([]byte{0xFF}, 256), 240) // 1 + 256 * 255 + 240 = 65521
	for _, d := range []int{-1, 0, 1} {
		l[256] = byte(240 + d)
		if got := wire.Checksum(l); got != adler32.Checksum(l) || int(got&0xFFFF) != (65521+d)%65521 {
			t.Errorf("Checksum of bytes whose sum is 65520 + %d: %x", d, got)
		}
	}
	for length := 65518; length < 65524; length++ {
		if got := wire.Checksum(make([]byte, length)); got != 1|uint32(length%65521)<<16 {
			t.Errorf("Checksum of %d zeros: %x", length, got)
		}
	}
}

func TestFrame(t *testing.T) {
	if l, e := wire.Frame(api.Frame{Kind: 1, Payload: []byte{5}}); !bytes.Equal(l, []byte{0xF7, 1, 1, 5, 8, 0, 13, 0}) || e != api.OK {
		t.Errorf("Frame of the kind 1 with 5: %x, error %d", l, e)
	}
	for kind := 1; kind <= 255; kind++ {
		for _, p := range payloads()[:9] {
			l, e := wire.Frame(api.Frame{Kind: kind, Payload: p})
			if !bytes.Equal(l, framed(byte(kind), p)) || e != api.OK {
				t.Errorf("Frame of the kind %d with %x: %x, error %d", kind, p, l, e)
			}
		}
	}
	for _, p := range append(payloads(), payload(api.MaxFrame-1), payload(api.MaxFrame)) {
		before := slices.Clone(p)
		l, e := wire.Frame(api.Frame{Kind: 7, Payload: p})
		if !bytes.Equal(l, framed(7, p)) || e != api.OK {
			t.Errorf("Frame of %d bytes: %.20x, error %d", len(p), l, e)
		}
		clear(l)
		if !bytes.Equal(p, before) {
			t.Errorf("Frame of %d bytes shares memory with them", len(p))
		}
	}
}

func TestFrameErrors(t *testing.T) {
	long, longer := make([]byte, api.MaxFrame), make([]byte, api.MaxFrame+1)
	for _, c := range []struct {
		kind    int
		payload []byte
		e       api.Errno
	}{
		{0, nil, api.ErrRange}, {-1, nil, api.ErrRange}, {256, nil, api.ErrRange}, {257, []byte{1}, api.ErrRange}, {math.MinInt, nil, api.ErrRange}, {math.MaxInt, nil, api.ErrRange}, {1 << 32, nil, api.ErrRange},
		{0, long, api.ErrRange}, {0, longer, api.ErrRange}, {256, longer, api.ErrRange},
		{1, longer, api.ErrLimit}, {255, longer, api.ErrLimit},
	} {
		if l, e := wire.Frame(api.Frame{Kind: c.kind, Payload: c.payload}); len(l) != 0 || e != c.e {
			t.Errorf("Frame of the kind %d with %d bytes: %.20x, error %d", c.kind, len(c.payload), l, e)
		}
	}
}

// nextOf returns what Next has to return.
func nextOf(l []byte, at int) (kind int, payload []byte, next int, e api.Errno) {
	if at < 0 || at > len(l) {
		return 0, nil, 0, api.ErrRange
	}
	rest := l[at:]
	switch {
	case len(rest) == 0:
		return 0, nil, 0, api.ErrEnd
	case rest[0] != 0xF7:
		return 0, nil, 0, api.ErrText
	case len(rest) == 1:
		return 0, nil, 0, api.ErrEnd
	case rest[1] == 0:
		return 0, nil, 0, api.ErrText
	}
	length, begin, e := uintOf(rest, 2)
	switch {
	case e != api.OK:
		return 0, nil, 0, e
	case length > 1<<21:
		return 0, nil, 0, api.ErrLimit
	case begin+int(length)+4 > len(rest):
		return 0, nil, 0, api.ErrEnd
	}
	end := begin + int(length)
	if binary.LittleEndian.Uint32(rest[end:]) != adler32.Checksum(rest[1:end]) {
		return 0, nil, 0, api.ErrSum
	}
	return int(rest[1]), rest[begin:end], at + end + 4, api.OK
}

// compareNext checks what Next says of bytes, and returns its error.
func compareNext(t *testing.T, l []byte, at int) api.Errno {
	t.Helper()
	f, next, e := wire.Next(l, at)
	if kind, p, wantNext, wantE := nextOf(l, at); f.Kind != kind || !bytes.Equal(f.Payload, p) || next != wantNext || e != wantE {
		t.Errorf("Next of %.40x at %d: kind %d, %d bytes, %d, error %d instead of kind %d, %d bytes, %d, error %d", l, at, f.Kind, len(f.Payload), next, e, kind, len(p), wantNext, wantE)
	}
	return e
}

func TestNext(t *testing.T) {
	for i, p := range append(payloads(), payload(api.MaxFrame)) {
		l := slices.Concat([]byte{0xF7, 1}, framed(byte(i+1), p), []byte{0xF7, 0, 5})
		before := slices.Clone(l)
		f, next, e := wire.Next(l, 2)
		if f.Kind != i+1 || !bytes.Equal(f.Payload, p) || next != len(l)-3 || e != api.OK {
			t.Errorf("Next of the kind %d with %d bytes: kind %d, %d bytes, %d, error %d", i+1, len(p), f.Kind, len(f.Payload), next, e)
		}
		clear(f.Payload[:cap(f.Payload)])
		if !bytes.Equal(l, before) {
			t.Errorf("Next with %d bytes shares memory with its argument", len(p))
		}
	}
}

func TestNextErrors(t *testing.T) {
	good := framed(1, []byte{5})
	begin := []byte{0xF7, 1}
	for _, c := range []struct {
		name string
		l    []byte
		at   int
		e    api.Errno
	}{
		{"before the bytes", good, -1, api.ErrRange}, {"behind the bytes", good, 9, api.ErrRange}, {"the least index", good, math.MinInt, api.ErrRange}, {"the greatest index", good, math.MaxInt, api.ErrRange}, {"behind nothing", nil, 1, api.ErrRange},
		{"nothing", nil, 0, api.ErrEnd}, {"at the end", good, 8, api.ErrEnd},
		{"a wrong first byte", []byte{0xF6}, 0, api.ErrText}, {"a wrong first byte in all", slices.Concat([]byte{0xF8}, good[1:]), 0, api.ErrText}, {"not at the beginning", good, 1, api.ErrText},
		{"no kind", good[:1], 0, api.ErrEnd}, {"the kind 0", []byte{0xF7, 0}, 0, api.ErrText}, {"the kind 0 in all", framed(0, []byte{5}), 0, api.ErrText},
		{"no length", begin, 0, api.ErrEnd}, {"a part of a length", []byte{0xF7, 1, 0x80}, 0, api.ErrEnd}, {"a length that does not end", slices.Concat(begin, bytes.Repeat([]byte{0x80}, 50)), 0, api.ErrEnd},
		{"a length that is too long", []byte{0xF7, 1, 0x81, 0, 5, 8, 0, 13, 0}, 0, api.ErrText}, {"a length of 2^64", slices.Concat(begin, bytes.Repeat([]byte{0x80}, 9), []byte{2}), 0, api.ErrText},
		{"a length of the limit", binary.AppendUvarint(begin, api.MaxFrame), 0, api.ErrEnd}, {"a length above the limit", binary.AppendUvarint(begin, api.MaxFrame+1), 0, api.ErrLimit}, {"a length of 2^63", binary.AppendUvarint(begin, 1<<63), 0, api.ErrLimit}, {"the greatest length", binary.AppendUvarint(begin, math.MaxUint64), 0, api.ErrLimit},
		{"all of a frame above the limit", framed(1, make([]byte, api.MaxFrame+1)), 0, api.ErrLimit},
		{"no payload", good[:3], 0, api.ErrEnd}, {"no checksum", good[:4], 0, api.ErrEnd}, {"a part of the checksum", good[:7], 0, api.ErrEnd}, {"a wrong payload without a part of the checksum", []byte{0xF7, 1, 1, 6, 8, 0, 13}, 0, api.ErrEnd},
		{"a wrong payload", []byte{0xF7, 1, 1, 6, 8, 0, 13, 0}, 0, api.ErrSum}, {"a wrong kind", []byte{0xF7, 2, 1, 5, 8, 0, 13, 0}, 0, api.ErrSum}, {"a wrong checksum", []byte{0xF7, 1, 1, 5, 8, 0, 13, 1}, 0, api.ErrSum},
	} {
		f, next, e := wire.Next(c.l, c.at)
		if f.Kind != 0 || len(f.Payload) != 0 || next != 0 || e != c.e {
			t.Errorf("%s: kind %d, %d bytes, %d, error %d", c.name, f.Kind, len(f.Payload), next, e)
		}
	}
}

// TestNextOfAllBytes compares Next on short bytes of every combination of a few values.
func TestNextOfAllBytes(t *testing.T) {
	some := []byte{0, 1, 2, 3, 0x80, 0xF7}
	count := 1
	for length := range 7 {
		for n := range count {
			l := []byte{0x33}
			for range length {
				l = append(l, some[n%len(some)])
				n /= len(some)
			}
			compareNext(t, l, 1)
			compareNext(t, slices.Concat([]byte{0xF7, 4}, l[1:]), 0)
		}
		count *= len(some)
	}
}

// TestBeginnings checks that no proper beginning of a frame is a frame, however much of it there is.
func TestBeginnings(t *testing.T) {
	for _, p := range payloads() {
		l := framed(9, p)
		step := 1 + len(p)/400
		for length := 0; length < len(l); length += step {
			if e := compareNext(t, l[:length], 0); e != api.ErrEnd {
				t.Errorf("%d bytes of a frame of %d bytes: error %d", length, len(l), e)
			}
		}
	}
}

// TestChangedBytes checks that no frame with a changed byte is a frame of the same length.
func TestChangedBytes(t *testing.T) {
	for _, p := range payloads() {
		l := framed(byte(len(p)%255+1), p)
		step := 1 + len(p)/10
		for at := 0; at < len(l); at++ {
			if at > 6 && at < len(l)-5 && at%step != 0 {
				continue
			}
			for d := 1; d < 256; d++ {
				l[at] += byte(d)
				if _, next, e := wire.Next(l, 0); e == api.OK && next == len(l) {
					t.Errorf("a frame of %d bytes with %x at %d is a frame", len(l), l[at], at)
				}
				if len(l) < 200 {
					compareNext(t, slices.Concat(l, make([]byte, 20)), 0)
				}
				l[at] -= byte(d)
			}
		}
		if e := compareNext(t, l, 0); e != api.OK {
			t.Errorf("a frame of %d bytes: error %d", len(l), e)
		}
	}
}
