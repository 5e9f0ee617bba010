package wire

import (
	"bytes"
	"iter"
	"slices"

	"testgate/api"
)

const (
	mark     = 0xF7  // the first byte of a frame
	mostKind = 255   // of a frame
	prime    = 65521 // the modulus of checksums
	sumBytes = 4     // of the checksum of a frame
)

// Checksum returns the checksum of bytes.
func Checksum(l []byte) uint32 {
	a, b := uint32(1), uint32(0)
	for _, x := range l {
		a = reduced(a + uint32(x))
		b = reduced(b + a)
	}
	return a | b<<16
}

// reduced returns n modulo the prime for an n below twice the prime.
func reduced(n uint32) uint32 {
	if n >= prime {
		return n - prime
	}
	return n
}

// Frame returns the bytes of a frame.
func Frame(f api.Frame) ([]byte, api.Errno) {
	if f.Kind < 1 || f.Kind > mostKind {
		return nil, api.ErrRange
	}
	if len(f.Payload) > api.MaxFrame {
		return nil, api.ErrLimit
	}
	head := PutUint([]byte{mark, byte(f.Kind)}, uint64(len(f.Payload)))
	l := slices.Concat(head, f.Payload, make([]byte, sumBytes))
	end := len(l) - sumBytes
	copy(l[end:], sumOf(l[1:end]))
	return l, api.OK
}

// sumOf returns the checksum of bytes as a frame has it.
func sumOf(l []byte) []byte {
	sum := Checksum(l)
	return []byte{byte(sum), byte(sum >> 8), byte(sum >> 16), byte(sum >> 24)}
}

// Next reads the frame that begins at an index.
func Next(l []byte, at int) (f api.Frame, next int, e api.Errno) {
	if at < 0 || at > len(l) {
		return api.Frame{}, 0, api.ErrRange
	}
	s := state{l: l, at: at, begin: at}
	for _, p := range parts() {
		if e := p.read(&s); e != api.OK {
			return api.Frame{}, 0, e
		}
	}
	return api.Frame{Kind: s.kind, Payload: slices.Clone(s.payload)}, s.at, api.OK
}

// Frames reads frames from the beginning to the end of l.
func Frames(l []byte) (out []api.Frame, at int, e api.Errno) {
	for r := range readings(l) {
		if r.e != api.OK {
			return out, at, r.e
		}
		out, at = append(out, r.frame), r.next
	}
	return out, at, api.OK
}

// A reading is a frame with the index after it, or an error.
type reading struct {
	frame api.Frame
	next  int
	e     api.Errno
}

// readings visits the frames of l one after the other; a wrong one is the last one, as nobody knows where it ends.
func readings(l []byte) iter.Seq[reading] {
	return func(yield func(reading) bool) {
		for at := 0; at < len(l); {
			f, next, e := Next(l, at)
			if !yield(reading{f, next, e}) || e != api.OK {
				return
			}
			at = next
		}
	}
}

// A state is what was read of the frame that begins at an index, and the index of what comes next.
type state struct {
	l         []byte
	begin, at int
	kind      int
	length    int
	payload   []byte // a part of l
}

// A part of a frame has a reader that takes it from the bytes.
type part struct {
	read func(s *state) api.Errno
}

// parts returns the parts of a frame in their order, so that the first error that is found is the first one of the document.
func parts() [5]part {
	return [...]part{{readMark}, {readKind}, {readLength}, {readPayload}, {readSum}}
}

// take returns the next n bytes, or ErrEnd if there are fewer.
func (s *state) take(n int) ([]byte, api.Errno) {
	if n > len(s.l)-s.at {
		return nil, api.ErrEnd
	}
	s.at += n
	return s.l[s.at-n : s.at], api.OK
}

func readMark(s *state) api.Errno {
	first, e := s.take(1)
	if e == api.OK && first[0] != mark {
		e = api.ErrText
	}
	return e
}

func readKind(s *state) api.Errno {
	kind, e := s.take(1)
	if e != api.OK {
		return e
	}
	if kind[0] == 0 {
		return api.ErrText
	}
	s.kind = int(kind[0])
	return api.OK
}

func readLength(s *state) api.Errno {
	n, next, e := Uint(s.l, s.at)
	if e != api.OK {
		return e
	}
	if n > api.MaxFrame {
		return api.ErrLimit
	}
	s.length, s.at = int(n), next
	return api.OK
}

func readPayload(s *state) (e api.Errno) {
	s.payload, e = s.take(s.length)
	return e
}

func readSum(s *state) api.Errno {
	summed := s.l[s.begin+1 : s.at]
	sum, e := s.take(sumBytes)
	if e == api.OK && !bytes.Equal(sum, sumOf(summed)) {
		e = api.ErrSum
	}
	return e
}
