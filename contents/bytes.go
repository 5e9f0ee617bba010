package contents

import (
	"testgate/api"
	"testgate/wire"
)

const textKind = 3 // of frames

// Encode returns the bytes of a store.
func Encode(s api.Store) ([]byte, api.Errno) {
	if e := Check(s); e != api.OK {
		return nil, e
	}
	var l []byte
	for _, text := range s.Texts {
		frame, e := wire.Frame(api.Frame{Kind: textKind, Payload: []byte(text)})
		if e != api.OK {
			return nil, e
		}
		l = append(l, frame...)
	}
	return l, api.OK
}

// Decode returns the store that has these bytes.
func Decode(l []byte) (api.Store, api.Errno) {
	frames, _, e := wire.Frames(l)
	if e != api.OK {
		return api.Store{}, e
	}
	var s api.Store
	for _, f := range frames {
		if f.Kind != textKind {
			return api.Store{}, api.ErrText
		}
		s.Texts = append(s.Texts, string(f.Payload))
	}
	if e := Check(s); e != api.OK {
		return api.Store{}, e
	}
	return s, api.OK
}
