package wire_test

import (
	"bytes"
	"slices"
	"testing"

	"testgate/api"
	"testgate/wire"
)

// many returns frames, their bytes, and the index at which each of them begins.
func many() (frames []api.Frame, l []byte, begins []int) {
	for i, p := range payloads()[:24] {
		frames = append(frames, api.Frame{Kind: 255 - i, Payload: p})
		begins = append(begins, len(l))
		l = append(l, framed(byte(255-i), p)...)
	}
	return frames, l, begins
}

// sameFrames compares frames; nil and no bytes are the same.
func sameFrames(a, b []api.Frame) bool {
	return slices.EqualFunc(a, b, func(x, y api.Frame) bool {
		return x.Kind == y.Kind && bytes.Equal(x.Payload, y.Payload)
	})
}

func TestFrames(t *testing.T) {
	frames, l, begins := many()
	for n := range frames {
		part := l[:begins[n]]
		if out, at, e := wire.Frames(part); !sameFrames(out, frames[:n]) || at != len(part) || e != api.OK {
			t.Errorf("Frames of %d: %d frames, %d, error %d", n, len(out), at, e)
		}
	}
	before := slices.Clone(l)
	out, at, e := wire.Frames(l)
	if !sameFrames(out, frames) || at != len(l) || e != api.OK || !bytes.Equal(l, before) {
		t.Errorf("Frames of all: %d frames, %d, error %d", len(out), at, e)
	}
	for _, empty := range [][]byte{nil, {}} {
		if out, at, e := wire.Frames(empty); len(out) != 0 || at != 0 || e != api.OK {
			t.Errorf("Frames of nothing: %d frames, %d, error %d", len(out), at, e)
		}
	}
}

func TestFramesShareNothing(t *testing.T) {
	frames, l, _ := many()
	before := slices.Clone(l)
	out, _, _ := wire.Frames(l)
	for i := range out {
		clear(out[i].Payload[:cap(out[i].Payload)])
		if !sameFrames(out[i+1:], frames[i+1:]) {
			t.Fatalf("the frame %d shares memory with a later one", i)
		}
	}
	if !bytes.Equal(l, before) {
		t.Error("frames share memory with the bytes that were read")
	}
}

func TestFramesStop(t *testing.T) {
	frames, l, begins := many()
	for _, c := range []struct {
		name  string
		wrong []byte
		e     api.Errno
	}{
		{"a byte", []byte{9}, api.ErrText}, {"a zero", []byte{0}, api.ErrText}, {"a mark", []byte{0xF7}, api.ErrEnd}, {"the kind 0", []byte{0xF7, 0, 0}, api.ErrText},
		{"a long length", []byte{0xF7, 1, 0x80, 0}, api.ErrText}, {"a great length", []byte{0xF7, 1, 0x81, 0x80, 0x80, 1}, api.ErrLimit},
		{"a wrong checksum", []byte{0xF7, 1, 1, 5, 8, 0, 13, 1}, api.ErrSum}, {"a part of a frame", []byte{0xF7, 1, 1, 5, 8, 0, 13}, api.ErrEnd},
	} {
		for _, n := range []int{0, 1, 2, 9, 23} {
			bytesBefore := l[:begins[n]]
			out, at, e := wire.Frames(slices.Concat(bytesBefore, c.wrong))
			if !sameFrames(out, frames[:n]) || at != begins[n] || e != c.e {
				t.Errorf("%s after %d frames: %d frames, %d, error %d", c.name, n, len(out), at, e)
			}
			if c.e == api.ErrEnd { // more bytes would be a part of the wrong frame
				continue
			}
			out, at, e = wire.Frames(slices.Concat(bytesBefore, c.wrong, l))
			if !sameFrames(out, frames[:n]) || at != begins[n] || e != c.e {
				t.Errorf("%s between frames after %d: %d frames, %d, error %d", c.name, n, len(out), at, e)
			}
		}
	}
}

// TestFramesOfBeginnings cuts frames off everywhere: the frames before remain.
func TestFramesOfBeginnings(t *testing.T) {
	frames, l, begins := many()
	l, begins = l[:begins[20]], begins[:20]
	for length := range l {
		whole, found := slices.BinarySearch(begins, length)
		begin := length
		want := api.OK
		if !found {
			whole--
			begin, want = begins[whole], api.ErrEnd
		}
		if out, at, e := wire.Frames(l[:length]); !sameFrames(out, frames[:whole]) || at != begin || e != want {
			t.Errorf("%d bytes: %d frames, %d, error %d", length, len(out), at, e)
		}
	}
}

// TestFramesReadBack checks P3.4: what Frame wrote, Frames reads.
func TestFramesReadBack(t *testing.T) {
	frames, _, _ := many()
	frames = append(frames, api.Frame{Kind: 1, Payload: payload(api.MaxFrame)}, api.Frame{Kind: 255})
	var l []byte
	for _, f := range frames {
		one, e := wire.Frame(f)
		if e != api.OK {
			t.Fatalf("Frame of %d bytes: error %d", len(f.Payload), e)
		}
		l = append(l, one...)
	}
	if out, at, e := wire.Frames(l); !sameFrames(out, frames) || at != len(l) || e != api.OK {
		t.Errorf("%d frames of %d bytes are read back as %d frames, %d, error %d", len(frames), len(l), len(out), at, e)
	}
}
