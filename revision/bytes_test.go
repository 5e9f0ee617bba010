package revision_test

import (
	"bytes"
	"encoding/binary"
	"hash/adler32"
	"math"
	"slices"
	"testing"

	"testgate/api"
	"testgate/revision"
)

// frame returns a frame with parts of a payload.
func frame(kind byte, parts ...[]byte) []byte {
	payload := slices.Concat(parts...)
	l := append(binary.AppendUvarint([]byte{0xF7, kind}, uint64(len(payload))), payload...)
	return binary.LittleEndian.AppendUint32(l, adler32.Checksum(l[1:]))
}

// text and number return the bytes of values of a payload.
func text(s string) []byte   { return append(number(uint64(len(s))), s...) }
func number(n uint64) []byte { return binary.AppendUvarint(nil, n) }

// file and end return the frames that are right.
func file(path, bytes string) []byte { return frame(1, text(path), text(bytes)) }
func end(n int) []byte               { return frame(2, number(uint64(n))) }

// encoded returns what Encode has to return for a revision, and the bytes of one that is wrong.
func encoded(r api.Revision) (l []byte) {
	for _, f := range r.Files {
		l = append(l, file(f.Path, f.Bytes)...)
	}
	return append(l, end(len(r.Files))...)
}

// revisions returns revisions of many sizes.
func revisions() []api.Revision {
	l := []api.Revision{{}, {Files: []api.File{}}, of("a", ""), of("a", "1", "b/c", "\x00\xF7\xff"), of(longPath, long), of(part, long, longPath, long[1:]), full(2), full(63), full(api.MaxFiles)}
	d := dice(4)
	for range 30 {
		l = append(l, d.revision("a", "a.", "a/b", "b.src", "c", longPath))
	}
	for _, n := range []int{126, 127, 128, 129, 16383} {
		l = append(l, of("n", long[:n]))
	}
	return l
}

func TestEncode(t *testing.T) {
	want := []byte{0xF7, 2, 1, 0, 4, 0, 11, 0} // the checksum: a = 1 + 2 + 1 + 0, b = 3 + 4 + 4
	if l, e := revision.Encode(api.Revision{}); !bytes.Equal(l, want) || e != api.OK {
		t.Errorf("Encode of no files: %x, error %d", l, e)
	}
	most := full(api.MaxFiles)
	for i := range most.Files {
		most.Files[i].Bytes = long
	}
	for _, r := range append(revisions(), most) {
		before := copyOf(r)
		l, e := revision.Encode(r)
		if !bytes.Equal(l, encoded(r)) || e != api.OK {
			t.Errorf("Encode of %s: %.60x, error %d", brief(r), l, e)
		}
		if !equal(r, before) {
			t.Errorf("Encode changes %s", brief(before))
		}
		if got, e := revision.Decode(l); !equal(got, r) || e != api.OK {
			t.Errorf("Decode of Encode of %s: %s, error %d", brief(r), brief(got), e)
		}
	}
}

func TestDecode(t *testing.T) {
	a, b, c := file("a", "12"), file("b/c", ""), file("c", "3")
	wrongSum := append(slices.Clone(c[:len(c)-1]), 9)
	for _, x := range []struct {
		name  string
		e     api.Errno
		parts [][]byte
	}{
		{"no files", api.OK, [][]byte{end(0)}}, {"three", api.OK, [][]byte{a, b, c, end(3)}}, {"the longest", api.OK, [][]byte{file(longPath, long), end(1)}},

		{"a byte", api.ErrText, [][]byte{{1}}}, {"a byte before", api.ErrText, [][]byte{{1}, a, end(1)}}, {"a byte between", api.ErrText, [][]byte{a, {0}, end(1)}}, {"a byte behind", api.ErrText, [][]byte{a, end(1), {9}}}, {"a mark", api.ErrEnd, [][]byte{a, end(1), {0xF7}}},
		{"a wrong sum", api.ErrSum, [][]byte{wrongSum, end(1)}}, {"a wrong sum without an end", api.ErrSum, [][]byte{a, wrongSum}}, {"a wrong sum behind another kind", api.ErrSum, [][]byte{frame(9), wrongSum, end(2)}}, {"a wrong sum behind a wrong path", api.ErrSum, [][]byte{file("A", ""), wrongSum, end(2)}},
		{"a payload that is too long", api.ErrLimit, [][]byte{frame(1, make([]byte, api.MaxFrame+1)), end(1)}}, {"a kind 0", api.ErrText, [][]byte{frame(0), end(1)}}, {"a part of a frame behind the end", api.ErrEnd, [][]byte{a, end(1), a[:9]}},

		{"nothing", api.ErrEnd, nil}, {"no end", api.ErrEnd, [][]byte{a}}, {"no end of three", api.ErrEnd, [][]byte{a, b, c}}, {"the end first", api.ErrEnd, [][]byte{end(1), a}}, {"the end between", api.ErrEnd, [][]byte{a, end(1), b}}, {"another kind at the end", api.ErrEnd, [][]byte{a, frame(3, number(1))}}, {"the kind 255 at the end", api.ErrEnd, [][]byte{a, frame(255, number(1))}},
		{"another kind, and no end", api.ErrEnd, [][]byte{frame(9), a}}, {"no text, and no end", api.ErrEnd, [][]byte{frame(1), a}}, {"twice, and no end", api.ErrEnd, [][]byte{a, a}}, {"a wrong path, and no end", api.ErrEnd, [][]byte{file("A", "")}},

		{"another kind", api.ErrText, [][]byte{a, frame(3, text("b"), text("")), end(2)}}, {"the kind 255", api.ErrText, [][]byte{frame(255, text("b"), text("")), end(1)}}, {"two ends", api.ErrText, [][]byte{a, end(1), end(1)}}, {"two ends that are counted", api.ErrText, [][]byte{a, end(1), end(2)}}, {"two ends without files", api.ErrText, [][]byte{end(0), end(1)}}, {"an end like a file", api.ErrText, [][]byte{frame(2, text("b"), text("")), end(1)}},
		{"a file without a payload", api.ErrText, [][]byte{frame(1), end(1)}}, {"a file without bytes", api.ErrText, [][]byte{frame(1, text("b")), end(1)}}, {"bytes that are too short", api.ErrText, [][]byte{frame(1, text("b"), []byte{3, 'x', 'y'}), end(1)}}, {"a path that is too short", api.ErrText, [][]byte{frame(1, []byte{5, 'x', 'y'}), end(1)}}, {"a byte behind the bytes", api.ErrText, [][]byte{frame(1, text("b"), text(""), []byte{0}), end(1)}}, {"a text behind the bytes", api.ErrText, [][]byte{frame(1, text("b"), text("x"), text("y")), end(1)}},
		{"a length of a path with a byte too many", api.ErrText, [][]byte{frame(1, []byte{0x81, 0, 'b', 0}), end(1)}}, {"a length of bytes with a byte too many", api.ErrText, [][]byte{frame(1, text("b"), []byte{0x80, 0}), end(1)}}, {"a length that does not end", api.ErrText, [][]byte{frame(1, text("b"), []byte{0x80}), end(1)}}, {"a great length of a path", api.ErrText, [][]byte{frame(1, number(math.MaxUint64), text("")), end(1)}}, {"a great length of bytes", api.ErrText, [][]byte{frame(1, text("b"), number(1<<63), []byte{1}), end(1)}}, {"a length above 2^64", api.ErrText, [][]byte{frame(1, bytes.Repeat([]byte{0x80}, 9), []byte{2}), end(1)}},
		{"no number", api.ErrText, [][]byte{frame(2)}}, {"no number of a file", api.ErrText, [][]byte{a, frame(2)}}, {"a number that does not end", api.ErrText, [][]byte{a, frame(2, []byte{0x81})}}, {"a number with a byte too many", api.ErrText, [][]byte{a, frame(2, []byte{0x81, 0})}}, {"a zero with a byte too many", api.ErrText, [][]byte{frame(2, []byte{0x80, 0})}}, {"a number that is too great", api.ErrText, [][]byte{frame(2, bytes.Repeat([]byte{0x80}, 9), []byte{2})}}, {"a byte behind the number", api.ErrText, [][]byte{a, frame(2, number(1), []byte{0})}}, {"a byte behind no files", api.ErrText, [][]byte{frame(2, number(0), []byte{0})}},
		{"one too few", api.ErrText, [][]byte{a, b, end(1)}}, {"one too many", api.ErrText, [][]byte{a, b, end(3)}}, {"none of two", api.ErrText, [][]byte{a, b, end(0)}}, {"one of none", api.ErrText, [][]byte{end(1)}}, {"the greatest number", api.ErrText, [][]byte{a, frame(2, number(math.MaxUint64))}}, {"2^32 more", api.ErrText, [][]byte{a, frame(2, number(1<<32+1))}}, {"2^63 more", api.ErrText, [][]byte{a, frame(2, number(1<<63+1))}},
		{"a wrong number, and twice", api.ErrText, [][]byte{a, a, end(1)}}, {"another kind, and too many bytes", api.ErrText, [][]byte{file("a", long+"x"), frame(3), end(2)}}, {"no text behind too many bytes", api.ErrText, [][]byte{file("a", long+"x"), frame(1), end(2)}}, {"a wrong number, and too many bytes", api.ErrText, [][]byte{file("a", long+"x"), end(2)}}, {"too many files, and a wrong number", api.ErrText, [][]byte{encoded(full(65))[:len(encoded(full(65)))-len(end(65))], end(64)}},

		{"a wrong path", api.ErrText, [][]byte{file("A", ""), end(1)}}, {"no path", api.ErrText, [][]byte{file("", ""), end(1)}}, {"a path that is too long", api.ErrText, [][]byte{file(longPath+"f", ""), end(1)}}, {"a path with as many bytes as a frame", api.ErrText, [][]byte{file(string(make([]byte, api.MaxFrame-9)), ""), end(1)}},
		{"twice", api.ErrTwice, [][]byte{a, a, end(2)}}, {"twice with other bytes", api.ErrTwice, [][]byte{a, file("a", "x"), end(2)}}, {"descending", api.ErrText, [][]byte{b, a, end(2)}}, {"too many bytes", api.ErrLimit, [][]byte{file("a", long+"x"), end(1)}}, {"far too many bytes", api.ErrLimit, [][]byte{file("a", string(make([]byte, api.MaxFrame-9))), end(1)}}, {"too many bytes, and then twice", api.ErrLimit, [][]byte{file("a", long+"x"), a, end(2)}},
		{"too many files", api.ErrLimit, [][]byte{encoded(full(65))}}, {"too many files, the first one wrong", api.ErrLimit, [][]byte{file("/", ""), encoded(full(64))[:len(encoded(full(64)))-len(end(64))], end(65)}}, {"far too many files", api.ErrLimit, [][]byte{bytes.Repeat(a, 300), end(300)}},
	} {
		l := slices.Concat(x.parts...)
		before := slices.Clone(l)
		r, e := revision.Decode(l)
		if e != x.e || e != api.OK && len(r.Files) > 0 {
			t.Errorf("%s: %s, error %d", x.name, brief(r), e)
		}
		if e == api.OK && !bytes.Equal(encoded(r), l) {
			t.Errorf("%s: %s, which has other bytes", x.name, brief(r))
		}
		if !bytes.Equal(l, before) {
			t.Errorf("%s: the bytes were changed", x.name)
		}
	}
}

// TestDecodeOfFiles compares Decode of files in any order, good and bad ones, with Check.
func TestDecodeOfFiles(t *testing.T) {
	some := of("a", "1", "b", "", "a/b", "x", "b", long+"x", "/", "", "", "")
	var visit func(r api.Revision)
	visit = func(r api.Revision) {
		got, e := revision.Decode(encoded(r))
		want := checkOf(r)
		if e != want || e == api.OK && !equal(got, r) || e != api.OK && len(got.Files) > 0 {
			t.Errorf("Decode of %s: %s, error %d instead of %d", brief(r), brief(got), e, want)
		}
		if len(r.Files) == 3 {
			return
		}
		for _, f := range some.Files {
			visit(with(r, f.Path, f.Bytes))
		}
	}
	visit(api.Revision{})
}

// TestDecodeOfAllPayloads reads all short payloads of a few bytes, as a file and as the end.
func TestDecodeOfAllPayloads(t *testing.T) {
	some := []byte{0, 1, 2, 3, 'a', 0x80, 0x81}
	count := 1
	for length := range 6 {
		for n := range count {
			var payload []byte
			for range length {
				payload = append(payload, some[n%len(some)])
				n /= len(some)
			}
			compareDecode(t, slices.Concat(frame(1, payload), end(1)))
			compareDecode(t, frame(2, payload))
			compareDecode(t, slices.Concat(file("a", ""), frame(2, payload)))
		}
		count *= len(some)
	}
}

// compareDecode checks that the bytes of frames are either those of the revision that Decode returns, or have an error.
func compareDecode(t *testing.T, l []byte) {
	t.Helper()
	r, e := revision.Decode(l)
	if e == api.OK && (!bytes.Equal(encoded(r), l) || checkOf(r) != api.OK) || e != api.OK && len(r.Files) > 0 {
		t.Errorf("Decode of %x: %s, error %d", l, brief(r), e)
	}
	for _, want := range []api.Revision{{}, of("a", ""), of("a", "a"), of("a", "\x00"), of("a", "\x01"), of("a", "\x02\x03")} {
		if bytes.Equal(encoded(want), l) && (e != api.OK || !equal(r, want)) {
			t.Errorf("Decode of the bytes of %s: %s, error %d", brief(want), brief(r), e)
		}
	}
}

// TestBeginnings checks P7.4: no proper beginning of the bytes of a revision can be decoded.
func TestBeginnings(t *testing.T) {
	for _, r := range revisions() {
		l := encoded(r)
		step := 1 + len(l)/300
		for length := 0; length < len(l); length += step {
			if got, e := revision.Decode(l[:length]); e != api.ErrEnd || len(got.Files) > 0 {
				t.Errorf("%d bytes of those of %s: %s, error %d", length, brief(r), brief(got), e)
			}
		}
		for cut := 1; cut < min(len(l), 40); cut++ {
			if _, e := revision.Decode(l[:len(l)-cut]); e != api.ErrEnd {
				t.Errorf("all but %d bytes of those of %s: error %d", cut, brief(r), e)
			}
		}
	}
}

// TestChangedBytes checks that each changed byte is an error, or the bytes are those of the other revision.
func TestChangedBytes(t *testing.T) {
	for _, r := range []api.Revision{{}, of("a", ""), of("a", "12", "b/c", "")} {
		l := encoded(r)
		for at := range l {
			for d := 1; d < 256; d++ {
				l[at] += byte(d)
				if got, e := revision.Decode(l); e == api.OK && !bytes.Equal(encoded(got), l) {
					t.Errorf("Decode of %x: %s", l, brief(got))
				}
				l[at] -= byte(d)
			}
		}
	}
}

// TestBytesShareNothing checks that bytes and revisions have memory of their own.
func TestBytesShareNothing(t *testing.T) {
	want := of("aa", "12", "bb", long) // not with texts of one byte: Go keeps one of each
	r := copyOf(want)
	l, _ := revision.Encode(r)
	clear(l[:cap(l)])
	if !equal(r, want) {
		t.Error("Encode shares memory with the revision")
	}
	l = encoded(r)
	first, _ := revision.Decode(l)
	second, _ := revision.Decode(l)
	clear(l)
	if !equal(first, r) || !equal(second, r) {
		t.Errorf("Decode shares memory with the bytes: %s and %s", brief(first), brief(second))
	}
	separate(t, "Decode", first, []api.Revision{second})
}
