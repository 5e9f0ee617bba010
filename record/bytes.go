package record

import (
	"testgate/api"
	"testgate/wire"
)

const recordKind = 4 // of frames

// Encode returns the bytes of records.
func Encode(l []api.Record) ([]byte, api.Errno) {
	if e := checkAll(l); e != api.OK {
		return nil, e
	}
	var out []byte
	for _, c := range l {
		out = append(out, framed(c)...)
	}
	return out, api.OK
}

// Decode returns the records that have these bytes.
func Decode(l []byte) ([]api.Record, api.Errno) {
	frames, _, e := wire.Frames(l)
	if e != api.OK {
		return nil, e
	}
	var out []api.Record
	for _, f := range frames {
		c, ok := read(f.Payload)
		if f.Kind != recordKind || !ok {
			return nil, api.ErrText
		}
		out = append(out, c)
	}
	if e := checkAll(out); e != api.OK {
		return nil, e
	}
	return out, api.OK
}

// checkAll returns the first error of records without their store.
func checkAll(l []api.Record) api.Errno {
	if len(l) > api.MaxRecords {
		return api.ErrLimit
	}
	for _, c := range l {
		if e := check(c, api.MaxTexts); e != api.OK {
			return e
		}
	}
	return api.OK
}

// framed returns the bytes of a record. There is no error, as a record with MaxFacts facts has far less than MaxFrame bytes.
func framed(c api.Record) []byte {
	var w writer
	text, number := w.text, w.number
	text(c.Test.Package)
	text(c.Test.Test)
	number(c.Revision)
	number(c.Environment)
	number(c.Level)
	number(c.Result.Kind)
	w.value(c.Result.Value)
	number(int(c.Result.Error))
	w.truth(c.Random)
	number(len(c.Facts))
	for _, f := range c.Facts {
		number(f.Key.Kind)
		text(f.Key.A)
		text(f.Key.B)
		number(f.Content)
	}
	l, _ := wire.Frame(api.Frame{Kind: recordKind, Payload: w.l})
	return l
}

// read returns the record that a payload describes, which need not be one that Check accepts.
func read(payload []byte) (c api.Record, ok bool) {
	p := reader{l: payload}
	text, number := p.text, p.number
	c.Test.Package = text()
	c.Test.Test = text()
	c.Revision = number()
	c.Environment = number()
	c.Level = number()
	c.Result.Kind = number()
	c.Result.Value = p.value()
	c.Result.Error = api.Errno(number())
	c.Random = p.truth()
	for n := number(); n > 0 && p.e == api.OK; n-- {
		var f api.Fact
		f.Key.Kind = number()
		f.Key.A = text()
		f.Key.B = text()
		f.Content = number()
		c.Facts = append(c.Facts, f)
	}
	return c, p.done()
}

// A writer appends values to a payload. It puts each one after nothing first, since the functions of layer 3 copy what is before it.
type writer struct{ l []byte }

func (w *writer) text(s string) { w.l = append(w.l, wire.PutText(nil, s)...) }

func (w *writer) number(n int) { w.l = append(w.l, wire.PutUint(nil, uint64(n))...) }

func (w *writer) value(n int) { w.l = append(w.l, wire.PutInt(nil, n)...) }

func (w *writer) truth(is bool) {
	if is {
		w.number(1)
	} else {
		w.number(0)
	}
}

// A reader takes values from a payload: at is the index of the next one, and e the first error. What it returns behind an error does not count.
type reader struct {
	l  []byte
	at int
	e  api.Errno
}

func (p *reader) text() string {
	s, next, e := wire.Text(p.l, p.at, api.MaxBytes)
	p.pass(next, e)
	return s
}

func (p *reader) number() int {
	n, next, e := wire.Uint(p.l, p.at)
	if n > mostNumber {
		e = api.ErrText
	}
	p.pass(next, e)
	return int(n)
}

func (p *reader) value() int {
	n, next, e := wire.Int(p.l, p.at)
	p.pass(next, e)
	return n
}

func (p *reader) truth() bool {
	n := p.number()
	if n > 1 {
		p.pass(p.at, api.ErrText)
	}
	return n == 1
}

// pass goes on behind a value, unless there is an error.
func (p *reader) pass(next int, e api.Errno) {
	if p.e == api.OK {
		p.at, p.e = next, e
	}
}

// done tells whether there was no error, and nothing is left.
func (p *reader) done() bool { return p.e == api.OK && p.at == len(p.l) }
