package record_test

import (
	"fmt"
	"regexp"
	"slices"
	"strings"
	"unsafe"

	"testgate/api"
)

// of returns a store of texts.
func of(l ...string) api.Store { return api.Store{Texts: l} }

// full returns a store of n texts: text 0, text 1, and so on.
func full(n int) (s api.Store) {
	for i := range n {
		s.Texts = append(s.Texts, fmt.Sprint("text ", i))
	}
	return s
}

// key returns a key of a kind and its names in a text, like "func p f".
func key(s string) api.Key {
	kinds := map[string]int{"func": api.KeyFunc, "test": api.KeyTest, "gen": api.KeyGen, "data": api.KeyData, "env": api.KeyEnv, "files": api.KeyFiles, "tree": api.KeyTree}
	parts := append(strings.Fields(s), "")
	return api.Key{Kind: kinds[parts[0]], A: parts[1], B: parts[2]}
}

// keys returns keys in a text, with commas between them.
func keys(s string) (l []api.Key) {
	for part := range strings.SplitSeq(s, ",") {
		l = append(l, key(part))
	}
	return l
}

// facts returns facts in a text like "func p f 3, data a.dat 0".
func facts(s string) (l []api.Fact) {
	for part := range strings.SplitSeq(s, ",") {
		at := strings.LastIndex(part, " ")
		f := api.Fact{Key: key(part[:at])}
		if _, err := fmt.Sscan(part[at:], &f.Content); err != nil {
			panic(err)
		}
		l = append(l, f)
	}
	return l
}

// many returns n keys of files, ascending, that are behind all keys of the tests of their kind.
func many(n int) (l []api.Key) {
	for i := range n {
		l = append(l, api.Key{Kind: api.KeyData, A: fmt.Sprintf("z%05d", i)})
	}
	return l
}

// manyFacts returns n facts with these keys and a content.
func manyFacts(n, content int) (l []api.Fact) {
	for _, k := range many(n) {
		l = append(l, api.Fact{Key: k, Content: content})
	}
	return l
}

// Names of a test, and results.
var (
	name   = api.Name{Package: "p", Test: "t"}
	passed = api.Result{Kind: api.Passed, Value: 1}
	failed = api.Result{Kind: api.Failed}
)

// base returns a record at a level with facts, that passed.
func base(level int, l []api.Fact) api.Record {
	return api.Record{Test: name, Revision: 3, Environment: 1, Level: level, Result: passed, Facts: l}
}

// ordinary returns records of each level with facts of all kinds that it can have. Their contents are from 0 to 2.
func ordinary() []api.Record {
	return []api.Record{
		base(api.LevelFunction, facts("func p f 1, func q f 0, test p t 2, gen g 0, data a.dat 1, env os 2, files p 0, tree q 2")),
		base(api.LevelFile, facts("gen a/b 0, gen g 1, data a.dat 1, env os 2, files p 0, files q 0, tree q 2")),
		base(api.LevelPackage, facts("gen g 1, data a.dat 1, data b.dat 2, env os 0, tree p 0, tree q 1")),
	}
}

// changed returns a copy of a record after changes.
func changed(c api.Record, changes ...func(c *api.Record)) api.Record {
	c.Facts = slices.Clone(c.Facts)
	for _, change := range changes {
		change(&c)
	}
	return c
}

// copyOf returns a record that shares no memory with c.
func copyOf(c api.Record) api.Record {
	c.Test = api.Name{Package: strings.Clone(c.Test.Package), Test: strings.Clone(c.Test.Test)}
	c.Facts = slices.Clone(c.Facts)
	for i, f := range c.Facts {
		c.Facts[i].Key = api.Key{Kind: f.Key.Kind, A: strings.Clone(f.Key.A), B: strings.Clone(f.Key.B)}
	}
	return c
}

// equal compares records; nil and no facts are the same.
func equal(a, b api.Record) bool {
	x, y := a, b
	x.Facts, y.Facts = nil, nil
	return fmt.Sprint(x) == fmt.Sprint(y) && slices.Equal(a.Facts, b.Facts)
}

// allEqual compares lists of records.
func allEqual(a, b []api.Record) bool { return slices.EqualFunc(a, b, equal) }

// brief returns a text of a record for messages.
func brief(c api.Record) string {
	return fmt.Sprintf("%.20q at %d in %d at the level %d: %v, %t, %d facts: %.200s", c.Test, c.Revision, c.Environment, c.Level, c.Result, c.Random, len(c.Facts), fmt.Sprint(c.Facts[:min(len(c.Facts), 8)]))
}

var (
	nameForm = regexp.MustCompile(`^[a-z][a-z0-9_]{0,23}$`)
	pathForm = regexp.MustCompile(`^[a-z0-9_.]{1,24}(/[a-z0-9_.]{1,24}){0,7}$`)
)

// isResult returns what CheckResult has to return.
func isResult(x api.Result) bool {
	switch fmt.Sprint(x.Kind, x.Error) {
	case "1 0":
		return x.Value != 0 && x.Value < 1<<53+1 && x.Value > -1<<53-1
	case "2 0":
		return x.Value == 0
	}
	return x.Kind == 3 && x.Value == 0 && 3 <= x.Error && x.Error <= 17
}

// isKey tells whether a key is one of a record at a level.
func isKey(k api.Key, level int) bool {
	switch k.Kind {
	case 1, 2:
		return level == 1 && nameForm.MatchString(k.A) && nameForm.MatchString(k.B)
	case 3, 4:
		return len(k.A) <= 80 && pathForm.MatchString(k.A) && k.B == ""
	case 6:
		return level < 3 && nameForm.MatchString(k.A) && k.B == ""
	}
	return (k.Kind == 5 || k.Kind == 7) && nameForm.MatchString(k.A) && k.B == ""
}

// checkOf returns what Check has to return of a record with a good store of so many texts.
func checkOf(c api.Record, texts int) api.Errno {
	number := func(n int) bool { return 0 <= n && n < 1<<31 }
	ok := nameForm.MatchString(c.Test.Package) && nameForm.MatchString(c.Test.Test) && number(c.Revision) && number(c.Environment) && slices.Contains([]int{1, 2, 3}, c.Level) && isResult(c.Result)
	for i, f := range c.Facts {
		ok = ok && isKey(f.Key, c.Level) && (i == 0 || less(c.Facts[i-1].Key, f.Key))
	}
	outside := func(f api.Fact) bool { return f.Content <= -1 || texts <= f.Content }
	switch {
	case !ok:
		return api.ErrInvalid
	case len(c.Facts) > 1024:
		return api.ErrLimit
	case slices.ContainsFunc(c.Facts, outside):
		return api.ErrContent
	}
	return api.OK
}

// checkAllOf returns what Encode has to return as the error of records.
func checkAllOf(l []api.Record) api.Errno {
	if len(l) > 512 {
		return api.ErrLimit
	}
	for _, c := range l {
		if e := checkOf(c, 4096); e != api.OK {
			return e
		}
	}
	return api.OK
}

// less tells whether a key is before another one.
func less(a, b api.Key) bool {
	if a.Kind != b.Kind {
		return a.Kind < b.Kind
	}
	if a.A != b.A {
		return a.A < b.A
	}
	return a.B < b.B
}

// overlap tells whether two strings have memory in common.
func overlap(a, b string) bool {
	if a == "" || b == "" {
		return false
	}
	x, y := uintptr(unsafe.Pointer(unsafe.StringData(a))), uintptr(unsafe.Pointer(unsafe.StringData(b)))
	return x < y+uintptr(len(b)) && y < x+uintptr(len(a))
}

// stringsOf returns the strings of a record.
func stringsOf(c api.Record) []string {
	l := []string{c.Test.Package, c.Test.Test}
	for _, f := range c.Facts {
		l = append(l, f.Key.A, f.Key.B)
	}
	return l
}

// stringsOfKeys returns those of keys.
func stringsOfKeys(keys []api.Key) (l []string) {
	for _, k := range keys {
		l = append(l, k.A, k.B)
	}
	return l
}

// share tells whether strings of two lists have memory in common.
func share(a, b []string) bool {
	return slices.ContainsFunc(a, func(x string) bool {
		return slices.ContainsFunc(b, func(y string) bool { return overlap(x, y) })
	})
}

// dice gives numbers that look random and are the same in every run.
type dice uint64

// roll returns a number from 0 to n - 1.
func (d *dice) roll(n int) int {
	*d = *d*6364136223846793005 + 1442695040888963407
	return int(uint64(*d)>>33) % n
}

// pick returns one of the words of a text.
func (d *dice) pick(words string) string {
	l := strings.Fields(words)
	return l[d.roll(len(l))]
}
