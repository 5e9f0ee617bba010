package contents

import (
	"strings"

	"testgate/api"
)

// A table has texts, each one once, and the number of each one.
type table struct {
	texts   []string
	numbers map[string]int
}

// tableOf returns the table of a store, or the first error of the store.
func tableOf(s api.Store) (*table, api.Errno) {
	if len(s.Texts) > api.MaxTexts {
		return nil, api.ErrLimit
	}
	t := &table{numbers: make(map[string]int, len(s.Texts))}
	for _, text := range s.Texts {
		t.put(text)
	}
	if len(t.texts) < len(s.Texts) {
		return nil, api.ErrTwice
	}
	return t, api.OK
}

// put returns the number of a text, which is a new last one if the table does not have it.
func (t *table) put(text string) int {
	n, found := t.numbers[text]
	if !found {
		n = len(t.texts)
		t.texts = append(t.texts, text)
		t.numbers[text] = n
	}
	return n
}

// store returns a store with copies of the texts, if there are not too many.
func (t *table) store() (s api.Store, e api.Errno) {
	if len(t.texts) > api.MaxTexts {
		return api.Store{}, api.ErrLimit
	}
	for _, text := range t.texts {
		s.Texts = append(s.Texts, strings.Clone(text))
	}
	return s, api.OK
}
