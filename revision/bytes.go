package revision

import (
	"testgate/api"
	"testgate/wire"
)

// Kinds of frames.
const (
	fileKind = 1
	endKind  = 2
)

// Encode returns the bytes of a revision.
func Encode(r api.Revision) ([]byte, api.Errno) {
	if e := Check(r); e != api.OK {
		return nil, e
	}
	var l []byte
	for _, f := range r.Files {
		l = append(l, framed(fileKind, wire.PutText(wire.PutText(nil, f.Path), f.Bytes))...)
	}
	return append(l, framed(endKind, wire.PutUint(nil, uint64(len(r.Files))))...), api.OK
}

// framed returns the bytes of a frame. There is no error, as the longest file has far less than MaxFrame bytes.
func framed(kind int, payload []byte) []byte {
	l, _ := wire.Frame(api.Frame{Kind: kind, Payload: payload})
	return l
}

// Decode returns the revision that has these bytes.
func Decode(l []byte) (api.Revision, api.Errno) {
	frames, _, e := wire.Frames(l)
	if e != api.OK {
		return api.Revision{}, e
	}
	last := len(frames) - 1
	if last < 0 || frames[last].Kind != endKind {
		return api.Revision{}, api.ErrEnd
	}
	r, ok := read(frames[:last])
	if !ok || !isCount(frames[last].Payload, last) {
		return api.Revision{}, api.ErrText
	}
	if e := Check(r); e != api.OK {
		return api.Revision{}, e
	}
	return r, api.OK
}

// read returns the files of frames, which need not be files that Check accepts.
func read(frames []api.Frame) (r api.Revision, ok bool) {
	for _, f := range frames {
		if f.Kind != fileKind {
			return api.Revision{}, false
		}
		file, ok := readFile(f.Payload)
		if !ok {
			return api.Revision{}, false
		}
		r.Files = append(r.Files, file)
	}
	return r, true
}

// readFile returns the file that a payload describes.
func readFile(l []byte) (f api.File, ok bool) {
	p := payload{l: l}
	next := p.text
	f.Path = next()
	f.Bytes = next()
	return f, p.done()
}

// isCount tells whether a payload is the number n.
func isCount(l []byte, n int) bool {
	p := payload{l: l}
	next := p.number
	return next() == uint64(n) && p.done()
}

// A payload is bytes that are read from their beginning on: at is the index of the next value, and wrong tells whether a value was missing or no value.
type payload struct {
	l     []byte
	at    int
	wrong bool
}

// text reads a string. It can have any length, as one that is too long for a file is an error of Check.
func (p *payload) text() string {
	s, next, e := wire.Text(p.l, p.at, len(p.l))
	p.pass(next, e)
	return s
}

// number reads a number.
func (p *payload) number() uint64 {
	n, next, e := wire.Uint(p.l, p.at)
	p.pass(next, e)
	return n
}

// pass goes on behind a value.
func (p *payload) pass(next int, e api.Errno) {
	p.at, p.wrong = next, p.wrong || e != api.OK
}

// done tells whether all values were right, and nothing is behind them.
func (p *payload) done() bool { return !p.wrong && p.at == len(p.l) }
