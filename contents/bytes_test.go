package contents_test

import (
	"bytes"
	"encoding/binary"
	"hash/adler32"
	"slices"
	"strings"
	"testing"

	"testgate/api"
	"testgate/contents"
)

// frame returns a frame.
func frame(kind byte, payload string) []byte {
	l := append(binary.AppendUvarint([]byte{0xF7, kind}, uint64(len(payload))), payload...)
	return binary.LittleEndian.AppendUint32(l, adler32.Checksum(l[1:]))
}

// encoded returns what Encode has to return for texts that are not too long, and the bytes of a store that is wrong.
func encoded(s api.Store) (l []byte) {
	for _, text := range s.Texts {
		l = append(l, frame(3, text)...)
	}
	return l
}

// manyStores returns stores of many sizes.
func manyStores() []api.Store {
	good, _ := stores(3)
	long := strings.Repeat("x", api.MaxFrame)
	good = append(good, full(api.MaxTexts), of(long), of("", long, "a", long[1:]), of(string(frame(3, "a")), "\xF7", "\xF7\x03"))
	for _, n := range []int{126, 127, 128, 129, 16383, 16384} {
		good = append(good, of(long[:n], "a"))
	}
	d := dice(5)
	for range 50 {
		good = append(good, d.store(40))
	}
	return good
}

// TestEncode compares with bytes of the standard library, and reads them back (P13.4).
func TestEncode(t *testing.T) {
	l, e := contents.Encode(of("a"))
	if want := []byte{0xF7, 3, 1, 'a', 102, 0, 111, 0}; !bytes.Equal(l, want) || e != api.OK { // the checksum: a = 1 + 3 + 1 + 97, b = 4 + 5 + 102
		t.Errorf("Encode of a: %x, error %d", l, e)
	}
	for _, s := range manyStores() {
		before := copyOf(s)
		l, e := contents.Encode(s)
		if !bytes.Equal(l, encoded(s)) || e != api.OK {
			t.Errorf("Encode of %s: %.60x, error %d", brief(s), l, e)
		}
		if !equal(s, before) {
			t.Errorf("Encode changes %s", brief(before))
		}
		if got, e := contents.Decode(l); !equal(got, s) || e != api.OK {
			t.Errorf("Decode of Encode of %s: %s, error %d", brief(s), brief(got), e)
		}
	}
}

// TestEncodeLimit has a text that is too long in each place (P13.4).
func TestEncodeLimit(t *testing.T) {
	long := strings.Repeat("x", api.MaxFrame+1)
	for _, c := range []struct {
		s api.Store
		e api.Errno
	}{
		{of(long), api.ErrLimit}, {of(long, "a", ""), api.ErrLimit}, {of("a", long, "b"), api.ErrLimit}, {of("a", "", long), api.ErrLimit}, {of(long, "a"+long), api.ErrLimit}, {of(long[1:], long), api.ErrLimit}, {of(long + long), api.ErrLimit},
		{of(long, long), api.ErrTwice}, {of(long, "a", "a"), api.ErrTwice}, {of("a", "a", long), api.ErrTwice}, {with(full(api.MaxTexts-1), long), api.ErrLimit}, {with(full(api.MaxTexts), long), api.ErrLimit},
	} {
		if l, e := contents.Encode(c.s); len(l) != 0 || e != c.e {
			t.Errorf("Encode of %s: %d bytes, error %d", brief(c.s), len(l), e)
		}
	}
}

// TestDecode has the errors in their order, and two at once (P13.4).
func TestDecode(t *testing.T) {
	a, b, none := frame(3, "a"), frame(3, "b"), frame(3, "")
	wrongSum := append(slices.Clone(a[:len(a)-1]), 9)
	great, greater := encoded(full(api.MaxTexts)), encoded(full(api.MaxTexts+1))
	tooLong := frame(3, strings.Repeat("x", api.MaxFrame+1))
	for _, x := range []struct {
		name  string
		e     api.Errno
		texts []string
		parts [][]byte
	}{
		{"nothing", api.OK, nil, nil}, {"a text", api.OK, []string{"a"}, [][]byte{a}}, {"the empty text", api.OK, []string{""}, [][]byte{none}}, {"three", api.OK, []string{"b", "", "a"}, [][]byte{b, none, a}}, {"a frame as a text", api.OK, []string{string(a)}, [][]byte{frame(3, string(a))}},

		{"a byte", api.ErrText, nil, [][]byte{{1}}}, {"a byte between", api.ErrText, nil, [][]byte{a, {3}, b}}, {"a byte behind", api.ErrText, nil, [][]byte{a, {0}}}, {"a mark", api.ErrEnd, nil, [][]byte{a, {0xF7}}}, {"a kind 0", api.ErrText, nil, [][]byte{frame(0, "a")}}, {"a part", api.ErrEnd, nil, [][]byte{a, b[:len(b)-1]}},
		{"a wrong sum", api.ErrSum, nil, [][]byte{a, wrongSum, b}}, {"a text that is too long", api.ErrLimit, nil, [][]byte{a, tooLong}}, {"a length with a byte too many", api.ErrText, nil, [][]byte{{0xF7, 3, 0x80, 0}, make([]byte, 9)}},
		{"a wrong sum behind another kind", api.ErrSum, nil, [][]byte{frame(4, "a"), wrongSum}}, {"a wrong sum behind a text twice", api.ErrSum, nil, [][]byte{a, a, wrongSum}}, {"a part behind too many", api.ErrEnd, nil, [][]byte{greater, a[:5]}}, {"too long behind another kind", api.ErrLimit, nil, [][]byte{frame(1, ""), tooLong}}, {"too long behind a text twice", api.ErrLimit, nil, [][]byte{a, a, tooLong}},

		{"the kind 1", api.ErrText, nil, [][]byte{frame(1, "a")}}, {"the kind 2", api.ErrText, nil, [][]byte{frame(2, "a"), b}}, {"the kind 4", api.ErrText, nil, [][]byte{a, frame(4, "b")}}, {"the kind 131", api.ErrText, nil, [][]byte{a, frame(131, "c"), b}}, {"the kind 255", api.ErrText, nil, [][]byte{frame(255, "")}},
		{"another kind behind a text twice", api.ErrText, nil, [][]byte{a, a, frame(4, "b")}}, {"another kind before a text twice", api.ErrText, nil, [][]byte{frame(4, "b"), a, a}}, {"another kind behind too many", api.ErrText, nil, [][]byte{greater, frame(4, "b")}}, {"another kind that is one too many", api.ErrText, nil, [][]byte{great, frame(4, "b")}},

		{"twice", api.ErrTwice, nil, [][]byte{a, a}}, {"twice with others", api.ErrTwice, nil, [][]byte{b, a, none, a}}, {"the empty text twice", api.ErrTwice, nil, [][]byte{none, a, none}},
		{"too many", api.ErrLimit, nil, [][]byte{greater}}, {"too many, one twice", api.ErrLimit, nil, [][]byte{great, frame(3, "text 0")}}, {"far too many of one text", api.ErrLimit, nil, [][]byte{bytes.Repeat(a, 2*api.MaxTexts)}}, {"as many as possible of one text", api.ErrTwice, nil, [][]byte{bytes.Repeat(a, api.MaxTexts)}},
	} {
		l := slices.Concat(x.parts...)
		before := slices.Clone(l)
		s, e := contents.Decode(l)
		if !slices.Equal(s.Texts, x.texts) || e != x.e {
			t.Errorf("%s: %s, error %d", x.name, brief(s), e)
		}
		if !bytes.Equal(l, before) {
			t.Errorf("%s: the bytes were changed", x.name)
		}
	}
}

// TestDecodeOfStores compares Decode of all short lists of texts, and of those with errors, with Check.
func TestDecodeOfStores(t *testing.T) {
	good, bad := stores(4)
	for _, c := range wrongStores() {
		bad = append(bad, c.s)
	}
	for _, s := range slices.Concat(good, bad) {
		want := s
		if checkOf(s) != api.OK {
			want = api.Store{}
		}
		if got, e := contents.Decode(encoded(s)); !equal(got, want) || e != checkOf(s) {
			t.Errorf("Decode of %s: %s, error %d", brief(s), brief(got), e)
		}
	}
}

// TestKinds has a frame of each kind behind and before a text.
func TestKinds(t *testing.T) {
	for kind := range 256 {
		want := api.ErrText
		if kind == 3 {
			want = api.OK
		}
		for _, l := range [][]byte{frame(byte(kind), "x"), slices.Concat(frame(3, "a"), frame(byte(kind), "x")), slices.Concat(frame(byte(kind), "x"), frame(3, "a"))} {
			if s, e := contents.Decode(l); e != want || e != api.OK && len(s.Texts) > 0 {
				t.Errorf("Decode of the kind %d: %s, error %d", kind, brief(s), e)
			}
		}
	}
}

// TestBeginnings checks that a beginning of the bytes of a store is a store of its first texts if it ends behind one of them, and otherwise an error.
func TestBeginnings(t *testing.T) {
	s := of("first", "", "a", "\xF7\x03", strings.Repeat("x", 200))
	l := encoded(s)
	whole := 0
	for length := range len(l) + 1 {
		want, wantError := api.Store{}, api.ErrEnd
		for n := range len(s.Texts) + 1 {
			if first := of(s.Texts[:n]...); len(encoded(first)) == length {
				want, wantError = first, api.OK
				whole++
			}
		}
		if got, e := contents.Decode(l[:length]); !equal(got, want) || e != wantError {
			t.Errorf("%d bytes: %s, error %d", length, brief(got), e)
		}
	}
	if whole != len(s.Texts)+1 {
		t.Errorf("%d beginnings end behind a text", whole)
	}
}

// TestChangedBytes checks that each changed byte is an error, or the bytes are those of the other store.
func TestChangedBytes(t *testing.T) {
	for _, s := range []api.Store{of(""), of("a", "12"), of("ab", "", "c")} {
		l := encoded(s)
		for at := range l {
			for d := 1; d < 256; d++ {
				l[at] += byte(d)
				if got, e := contents.Decode(l); e == api.OK && !bytes.Equal(encoded(got), l) || e != api.OK && len(got.Texts) > 0 {
					t.Errorf("Decode of %x: %s, error %d", l, brief(got), e)
				}
				l[at] -= byte(d)
			}
		}
	}
}

// TestBytesShareNothing checks that bytes and stores have memory of their own.
func TestBytesShareNothing(t *testing.T) {
	want := of("first", "second")
	s := copyOf(want)
	l, _ := contents.Encode(s)
	other, _ := contents.Encode(s)
	clear(l[:cap(l)])
	if !equal(s, want) || !bytes.Equal(other, encoded(want)) {
		t.Error("Encode shares memory with the store, or with another result")
	}
	l = encoded(want)
	first, _ := contents.Decode(l)
	second, _ := contents.Decode(l)
	clear(l)
	if !equal(first, want) || !equal(second, want) {
		t.Errorf("Decode shares memory with the bytes: %s and %s", brief(first), brief(second))
	}
	separate(t, "Decode", first, []api.Store{second})
}
