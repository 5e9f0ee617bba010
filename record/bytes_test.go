package record_test

import (
	"bytes"
	"encoding/binary"
	"hash/adler32"
	"math"
	"slices"
	"strings"
	"testing"

	"testgate/api"
	"testgate/record"
)

// frame returns a frame.
func frame(kind byte, payload []byte) []byte {
	l := append(binary.AppendUvarint([]byte{0xF7, kind}, uint64(len(payload))), payload...)
	return binary.LittleEndian.AppendUint32(l, adler32.Checksum(l[1:]))
}

// payloadOf returns the payload of a record, which need not be one that Check accepts.
func payloadOf(c api.Record) (l []byte) {
	number := func(n int) { l = binary.AppendUvarint(l, uint64(n)) }
	text := func(s string) { l = append(binary.AppendUvarint(l, uint64(len(s))), s...) }
	text(c.Test.Package)
	text(c.Test.Test)
	for _, n := range []int{c.Revision, c.Environment, c.Level, c.Result.Kind} {
		number(n)
	}
	l = binary.AppendVarint(l, int64(c.Result.Value))
	number(int(c.Result.Error))
	if c.Random {
		l = append(l, 1)
	} else {
		l = append(l, 0)
	}
	number(len(c.Facts))
	for _, f := range c.Facts {
		number(f.Key.Kind)
		text(f.Key.A)
		text(f.Key.B)
		number(f.Content)
	}
	return l
}

// encoded returns the bytes of records.
func encoded(records ...api.Record) (l []byte) {
	for _, c := range records {
		l = append(l, frame(4, payloadOf(c))...)
	}
	return l
}

// cursor reads a payload with the standard library.
type cursor struct {
	l   []byte
	bad bool
}

func (c *cursor) uint() uint64 {
	n, size := binary.Uvarint(c.l)
	if c.bad || size <= 0 || size > 1 && c.l[size-1] == 0 {
		c.bad = true
		return 0
	}
	c.l = c.l[size:]
	return n
}

func (c *cursor) number() int {
	n := c.uint()
	c.bad = c.bad || n >= 1<<31
	return int(n)
}

func (c *cursor) text() string {
	n := c.uint()
	if c.bad || n > 16384 || n > uint64(len(c.l)) {
		c.bad = true
		return ""
	}
	s := string(c.l[:n])
	c.l = c.l[n:]
	return s
}

// recordOf returns the record of a payload, if it is one.
func recordOf(payload []byte) (c api.Record, ok bool) {
	l := cursor{l: payload}
	c.Test.Package, c.Test.Test = l.text(), l.text()
	c.Revision, c.Environment, c.Level, c.Result.Kind = l.number(), l.number(), l.number(), l.number()
	if n := l.uint(); n%2 == 0 {
		c.Result.Value = int(n / 2)
	} else {
		c.Result.Value = -int(n/2) - 1
	}
	c.Result.Error = api.Errno(l.number())
	random := l.number()
	c.Random = random == 1
	for n := l.number(); n > 0 && !l.bad; n-- {
		c.Facts = append(c.Facts, api.Fact{Key: api.Key{Kind: l.number(), A: l.text(), B: l.text()}, Content: l.number()})
	}
	return c, !l.bad && len(l.l) == 0 && random < 2
}

// decodedOf returns what Decode has to return for frames of the kind 4 with payloads.
func decodedOf(payloads ...[]byte) (l []api.Record, e api.Errno) {
	for _, payload := range payloads {
		c, ok := recordOf(payload)
		if !ok {
			return nil, api.ErrText
		}
		l = append(l, c)
	}
	if e := checkAllOf(l); e != api.OK {
		return nil, e
	}
	return l, api.OK
}

// wantDecode checks what Decode returns for payloads, and that the bytes are as before.
func wantDecode(t *testing.T, payloads ...[]byte) api.Errno {
	t.Helper()
	var l []byte
	for _, payload := range payloads {
		l = append(l, frame(4, payload)...)
	}
	before := slices.Clone(l)
	want, wantError := decodedOf(payloads...)
	got, e := record.Decode(l)
	if !allEqual(got, want) || e != wantError || e != api.OK && len(got) > 0 {
		t.Errorf("Decode of %.300x: %d records, error %d, instead of %d records, error %d", payloads, len(got), e, len(want), wantError)
	}
	if !bytes.Equal(l, before) {
		t.Errorf("Decode changes %.300x", payloads)
	}
	return e
}

// manyRecords returns lists of records, also at the limits.
func manyRecords() [][]api.Record {
	l := ordinary()
	long := strings.Repeat("a", 24)
	path := strings.Repeat("aaaaaaaaa/", 7) + strings.Repeat("a", 10)
	for _, c := range []api.Record{
		base(1, nil), base(2, manyFacts(api.MaxFacts, api.MaxTexts-1)), base(3, facts("data a 127, data b 128, data c 4095")),
		{Test: api.Name{Package: long, Test: long}, Revision: 1<<31 - 1, Environment: 1<<31 - 1, Level: 1, Result: api.Result{Kind: api.Passed, Value: -api.MaxValue}, Facts: []api.Fact{{Key: api.Key{Kind: 1, A: long, B: long}}, {Key: api.Key{Kind: 3, A: path}, Content: 300}}},
		{Test: name, Level: 1, Random: true, Result: api.Result{Kind: api.Passed, Value: api.MaxValue}}, {Test: name, Level: 2, Result: failed, Revision: 127, Environment: 128}, {Test: name, Level: 3, Result: api.Result{Kind: api.Broken, Error: api.ErrDepth}, Revision: 16384}, {Test: name, Level: 3, Result: api.Result{Kind: api.Broken, Error: api.ErrRange}, Random: true},
	} {
		l = append(l, c)
	}
	for _, v := range []int{1, -1, 63, 64, -64, -65, 1 << 30, -1 << 31} {
		l = append(l, api.Record{Test: name, Level: 1, Result: api.Result{Kind: api.Passed, Value: v}})
	}
	lists := [][]api.Record{nil, l, slices.Repeat(l, 2), slices.Repeat(l[:1], api.MaxRecords), slices.Repeat([]api.Record{base(1, manyFacts(api.MaxFacts, 7))}, 30)}
	for _, c := range l {
		lists = append(lists, []api.Record{c})
	}
	return lists
}

// TestEncode compares with bytes of the standard library, and reads them back (P14.5, P14.6).
func TestEncode(t *testing.T) {
	for _, l := range manyRecords() {
		var before []api.Record
		for _, c := range l {
			before = append(before, copyOf(c))
		}
		got, e := record.Encode(l)
		if !bytes.Equal(got, encoded(l...)) || e != api.OK {
			t.Errorf("Encode of %d records: %.60x, error %d", len(l), got, e)
		}
		back, e := record.Decode(got)
		if !slices.EqualFunc(back, l, record.Same) || !allEqual(back, l) || e != api.OK {
			t.Errorf("Decode of Encode of %d records: %d records, error %d", len(l), len(back), e)
		}
		if !allEqual(l, before) {
			t.Errorf("Encode changes %d records", len(l))
		}
	}
	l, e := record.Encode([]api.Record{{Test: api.Name{Package: "p", Test: "t_1"}, Revision: 5, Environment: 300, Level: 1, Result: api.Result{Kind: api.Passed, Value: -2}, Random: true, Facts: facts("func p f 0, data a 129")}})
	want := "\x01p\x03t_1\x05\xAC\x02\x01\x01\x03\x00\x01\x02\x01\x01p\x01f\x00\x04\x01a\x00\x81\x01"
	if !bytes.Equal(l, frame(4, []byte(want))) || e != api.OK {
		t.Errorf("Encode of an example: %x, error %d", l, e)
	}
}

// TestEncodeErrors has each error in each fact of each record, and a second one before or behind it (P14.5).
func TestEncodeErrors(t *testing.T) {
	good := short(base(1, facts("func p f 0, data a.dat 4095, data b.dat 7")))
	wrong := func(l []api.Record, want api.Errno) {
		t.Helper()
		if got, e := record.Encode(l); len(got) > 0 || e != want || checkAllOf(l) != want {
			t.Errorf("Encode: %d bytes, error %d instead of %d", len(got), e, want)
		}
	}
	for at := range good.Facts {
		for _, one := range faults(at, api.MaxTexts) {
			x := changed(good, one.change)
			wrong([]api.Record{x}, one.e)
			wrong([]api.Record{good, x, good}, one.e)
			wrong([]api.Record{good, good, x}, one.e)
			for _, other := range faults(at, api.MaxTexts) {
				y := changed(good, other.change)
				wrong([]api.Record{x, y}, one.e)
				wrong([]api.Record{changed(x, other.change)}, firstOf(one.e, other.e))
			}
			wrong(append(slices.Repeat([]api.Record{good}, api.MaxRecords), x), api.ErrLimit)
			wrong(append([]api.Record{x}, slices.Repeat([]api.Record{good}, api.MaxRecords)...), api.ErrLimit)
			wrong(append(slices.Repeat([]api.Record{good}, api.MaxRecords-1), x), one.e)
		}
	}
	wrong(make([]api.Record, api.MaxRecords+1), api.ErrLimit)
	wrong(make([]api.Record, api.MaxRecords), api.ErrInvalid)
}

// TestDecodeErrors has the errors in their order, and two at once (P14.5).
func TestDecodeErrors(t *testing.T) {
	good := base(1, facts("data a 0, data b 4095"))
	a, text := encoded(good), frame(4, nil)
	invalid, content := encoded(changed(good, func(c *api.Record) { c.Level = 4 })), encoded(changed(good, func(c *api.Record) { c.Facts[0].Content = api.MaxTexts }))
	limit := encoded(base(1, manyFacts(api.MaxFacts+1, 0)))
	full := bytes.Repeat(a, api.MaxRecords)
	sum := append(slices.Clone(a[:len(a)-1]), a[len(a)-1]+1)
	tooLong := frame(4, make([]byte, api.MaxFrame+1))
	for _, x := range []struct {
		name  string
		e     api.Errno
		parts [][]byte
	}{
		{"nothing", api.OK, nil}, {"a record", api.OK, [][]byte{a}}, {"as many records as possible", api.OK, [][]byte{full}},
		{"a byte", api.ErrText, [][]byte{{4}}}, {"a mark", api.ErrEnd, [][]byte{a, {0xF7}}}, {"a byte between", api.ErrText, [][]byte{a, {4}, a}}, {"a part", api.ErrEnd, [][]byte{a, a[:len(a)-1]}}, {"a wrong sum", api.ErrSum, [][]byte{a, sum}}, {"a frame that is too long", api.ErrLimit, [][]byte{tooLong}}, {"the kind 0", api.ErrText, [][]byte{frame(0, payloadOf(good))}},
		{"a wrong sum behind a text", api.ErrSum, [][]byte{text, sum}}, {"a part behind another kind", api.ErrEnd, [][]byte{frame(3, payloadOf(good)), a[:5]}}, {"a wrong sum behind too many", api.ErrSum, [][]byte{full, a, sum}}, {"a wrong sum behind something invalid", api.ErrSum, [][]byte{invalid, sum}},
		{"a text", api.ErrText, [][]byte{text}}, {"a text behind something invalid", api.ErrText, [][]byte{invalid, text}}, {"a text behind a content", api.ErrText, [][]byte{content, a, text}}, {"a text behind too many", api.ErrText, [][]byte{full, a, text}}, {"a text behind too many facts", api.ErrText, [][]byte{limit, text}}, {"another kind behind something invalid", api.ErrText, [][]byte{invalid, frame(5, payloadOf(good))}}, {"another kind that is one too many", api.ErrText, [][]byte{full, frame(1, nil)}},
		{"something invalid", api.ErrInvalid, [][]byte{a, invalid}}, {"a content", api.ErrContent, [][]byte{a, content}}, {"too many facts", api.ErrLimit, [][]byte{a, limit}}, {"a content before something invalid", api.ErrContent, [][]byte{content, invalid}}, {"something invalid before too many facts", api.ErrInvalid, [][]byte{invalid, limit}}, {"too many facts before something invalid", api.ErrLimit, [][]byte{limit, invalid}},
		{"too many", api.ErrLimit, [][]byte{full, a}}, {"too many, the first one invalid", api.ErrLimit, [][]byte{invalid, full}}, {"too many, the last one invalid", api.ErrLimit, [][]byte{full, invalid}}, {"as many as possible, one invalid", api.ErrInvalid, [][]byte{full[:len(full)-len(a)], invalid}},
	} {
		l := slices.Concat(x.parts...)
		if got, e := record.Decode(l); e != x.e || e != api.OK && len(got) > 0 || e == api.OK && len(got) != len(l)/len(a) {
			t.Errorf("%s: %d records, error %d", x.name, len(got), e)
		}
	}
	for kind := range 256 {
		want := api.ErrText
		if kind == 4 {
			want = api.OK
		}
		for _, l := range [][]byte{frame(byte(kind), payloadOf(good)), slices.Concat(a, frame(byte(kind), payloadOf(good))), slices.Concat(frame(byte(kind), payloadOf(good)), a)} {
			if _, e := record.Decode(l); e != want {
				t.Errorf("Decode of the kind %d: error %d", kind, e)
			}
		}
	}
}

// TestPayloads changes each byte of payloads in all ways, removes it, adds one, and cuts the rest off (P14.5).
func TestPayloads(t *testing.T) {
	seen := map[api.Errno]int{}
	for _, c := range []api.Record{
		base(1, facts("data a 300")), base(1, nil), {Test: api.Name{Package: "ab", Test: "t"}, Revision: 200, Environment: 1, Level: 1, Result: api.Result{Kind: 3, Error: 17}, Random: true, Facts: facts("func p f 0, test p t 1, env x 128")}, base(3, facts("env os 1, tree p 0")),
	} {
		payload := payloadOf(c)
		for at := range payload {
			for d := range 256 {
				x := slices.Clone(payload)
				x[at] += byte(d)
				seen[wantDecode(t, x)]++
				seen[wantDecode(t, slices.Insert(slices.Clone(payload), at, byte(d)))]++
			}
			seen[wantDecode(t, payload[:at])]++
			seen[wantDecode(t, slices.Delete(slices.Clone(payload), at, at+1))]++
			wantDecode(t, payload, payload[:at])
		}
		for d := range 256 {
			if e := wantDecode(t, append(slices.Clone(payload), byte(d))); e != api.ErrText {
				t.Errorf("Decode with the byte %d behind a record: error %d", d, e)
			}
		}
	}
	if seen[api.OK] < 100 || seen[api.ErrText] < 100 || seen[api.ErrInvalid] < 100 || seen[api.ErrContent] < 10 {
		t.Errorf("so many errors were there: %v", seen)
	}
}

// TestNumbers has great numbers, and numbers with a byte too many, in the place of each number (P14.5).
func TestNumbers(t *testing.T) {
	numbers := [][]byte{{0x80, 0}, {0x81, 0}, {0x80}, {0x80, 0x80, 0x80, 0x80, 0x80, 0x80, 0x80, 0x80, 0x80, 2}, {0x80, 0x80, 0x80, 0x80, 0x80, 0x80, 0x80, 0x80, 0x80, 0x80, 1}}
	for _, n := range []uint64{0, 1, 2, 3, 4, 1 << 12, 1<<12 - 1, 1<<31 - 1, 1 << 31, 1<<31 + 1, 1<<32 + 1, 1<<53 + 1, 1 << 54, 1<<54 + 1, 1<<54 + 2, 1<<63 - 1, 1 << 63, math.MaxUint64} {
		numbers = append(numbers, binary.AppendUvarint(nil, n))
	}
	payload := payloadOf(base(1, facts("data a 7")))
	right := map[int]int{} // with the other numbers, at each place
	for at := range payload {
		for _, n := range numbers {
			if wantDecode(t, slices.Concat(payload[:at], n, payload[at+1:])) == api.OK {
				right[at]++
			}
		}
	}
	if right[4] != 8 || right[5] != 8 || right[6] != 3 || right[8] != 12 || right[10] != 2 || right[16] != 6 {
		t.Errorf("so many numbers are right in each place: %v", right)
	}
}

// TestTexts has texts of many lengths in the place of each text: they are ErrInvalid up to MaxBytes bytes, and then ErrText (P14.5).
func TestTexts(t *testing.T) {
	for _, n := range []int{0, 1, 23, 24, 25, 127, 128, api.MaxBytes - 1, api.MaxBytes, api.MaxBytes + 1, 2 * api.MaxBytes} {
		long := strings.Repeat("a", n)
		for i, change := range []func(c *api.Record){func(c *api.Record) { c.Test.Package = long }, func(c *api.Record) { c.Test.Test = long }, func(c *api.Record) { c.Facts[0].Key.A = long }, func(c *api.Record) { c.Facts[0].Key.B = long }} {
			want := api.ErrInvalid
			switch {
			case n > api.MaxBytes:
				want = api.ErrText
			case n >= 1 && n <= api.MaxName && i < 3, n == 0 && i == 3:
				want = api.OK
			}
			if e := wantDecode(t, payloadOf(changed(base(1, facts("data a 7")), change))); e != want {
				t.Errorf("Decode with a text %d of %d bytes: error %d", i, n, e)
			}
		}
	}
}

// TestManyFactsOfFewBytes has numbers of facts far beyond the end of the payload.
func TestManyFactsOfFewBytes(t *testing.T) {
	payload := payloadOf(base(1, nil))
	payload = payload[:len(payload)-1]
	for _, n := range []uint64{1, 1025, 1<<31 - 1, 1 << 31, math.MaxUint64} {
		for _, rest := range [][]byte{nil, {0}, make([]byte, 4), make([]byte, 4000), {4, 1, 'a', 0, 0}} {
			wantDecode(t, slices.Concat(binary.AppendUvarint(slices.Clone(payload), n), rest))
		}
	}
	for _, n := range []int{api.MaxFacts, api.MaxFacts + 1, 5 * api.MaxFacts} {
		wantDecode(t, payloadOf(base(1, manyFacts(n, 0))))
		wantDecode(t, payloadOf(base(1, nil)), payloadOf(base(1, manyFacts(n, 4096))))
	}
}

// TestChangedBytes checks that each changed byte is an error, or the bytes are those of other records.
func TestChangedBytes(t *testing.T) {
	l := encoded(base(1, facts("data a 300")), base(1, nil))
	for at := range l {
		for d := 1; d < 256; d++ {
			l[at] += byte(d)
			if got, e := record.Decode(l); e == api.OK && !bytes.Equal(encoded(got...), l) || e != api.OK && len(got) > 0 {
				t.Errorf("Decode of %x: %d records, error %d", l, len(got), e)
			}
			l[at] -= byte(d)
		}
	}
	first := len(encoded(base(1, facts("data a 300"))))
	for length := range len(l) {
		want := api.ErrEnd
		if length == 0 || length == first {
			want = api.OK
		}
		if got, e := record.Decode(l[:length]); e != want || len(got) != length/first*int(1-min(e, 1)) {
			t.Errorf("Decode of %d bytes: %d records, error %d", length, len(got), e)
		}
	}
}

// TestBytesShareNothing checks that bytes and records have memory of their own (R3).
func TestBytesShareNothing(t *testing.T) {
	want := []api.Record{base(1, facts("func package_name function_name 0, data a/long/path.dat 1")), base(2, facts("env os 4"))}
	want[0].Test = api.Name{Package: "package_name", Test: "test_name"} // all texts of one byte have the same memory in Go
	l, _ := record.Encode(want)
	other, _ := record.Encode(want)
	clear(l[:cap(l)])
	if !bytes.Equal(other, encoded(want...)) {
		t.Error("Encode shares memory with another result")
	}
	first, _ := record.Decode(other)
	second, _ := record.Decode(other)
	clear(other)
	if !allEqual(first, want) || share(stringsOf(first[0]), stringsOf(second[0])) {
		t.Error("Decode shares memory with the bytes, or with another result")
	}
	clear(first[0].Facts[:cap(first[0].Facts)])
	clear(first[1:])
	if !allEqual(second, want) {
		t.Error("Decode shares memory with another result")
	}
}
