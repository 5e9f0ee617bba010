package mention_test

import (
	"fmt"
	"reflect"
	"strings"
	"testing"

	"testgate/api"
	"testgate/source"
)

// dice gives numbers that look random and are the same in every run.
type dice uint64

// roll returns a number from 0 to n - 1.
func (d *dice) roll(n int) int {
	*d = *d*6364136223846793005 + 1442695040888963407
	return int(uint64(*d)>>33) % n
}

// pick returns one of some strings.
func (d *dice) pick(l ...string) string { return l[d.roll(len(l))] }

// expr returns the text of an expression that is nested at most so deeply, with parentheses around most operands.
func (d *dice) expr(depth int, params []string) string {
	sub := func() string { return d.expr(depth-1, params) }
	kind := d.roll(12)
	if depth <= 1 {
		kind = 4 + d.roll(8)
	}
	switch kind {
	case 0:
		return "(" + sub() + ")" + d.pick(" + ", "-", "*", " / ", "%\n", " < ", "==") + "(" + sub() + ")"
	case 1:
		return "(if " + sub() + " then " + sub() + " else " + sub() + ")"
	case 2:
		return "read(" + d.pick(`"a.dat"`, `"0/if"`, `"z"`, `"a/b/c"`) + ", " + sub() + ")"
	case 3:
		return d.pick("f", "g_1", "sizes", "xread", "flips") + "(" + sub() + "," + sub() + ")"
	case 4:
		return d.pick("f", "h", "hash") + "( )"
	case 5:
		return "size(" + d.pick(`"a.dat"`, `".."`, `"z"`) + ")"
	case 6:
		return "has(" + d.pick(`"a.dat"`, `"b/has"`, `"z"`) + ")"
	case 7:
		return "env(" + d.pick(`"os"`, `"if"`, `"a"`, `"x_9"`) + ")"
	case 8:
		if d.roll(3) == 0 {
			return "flip(" + d.pick("0", "63", "07") + ")"
		}
	case 9, 10:
		if len(params) > 0 {
			return d.pick(params...)
		}
	}
	return d.pick("0", "1", "-5", "(7)", "- 0", "9007199254740992", "010")
}

// text returns the text of a file with comments and blanks that are not needed.
func (d *dice) text() string {
	var b strings.Builder
	space := func() string { return d.pick(" ", "\n", "  # test ; \" f(\n", "\t") }
	b.WriteString(space() + "package" + space() + d.pick("p", "q") + space() + ";")
	for i := range d.roll(4) {
		fmt.Fprintf(&b, "%simport i%d;", space(), i)
	}
	for i := range 1 + d.roll(4) {
		switch d.roll(3) {
		case 0:
			params := []string{"a", "b", "os"}[:d.roll(4)]
			fmt.Fprintf(&b, "%sfunc f%d(%s)=%s;", space(), i, strings.Join(params, ","), d.expr(1+d.roll(4), params))
		case 1:
			fmt.Fprintf(&b, "%stest t%d =%s;", space(), i, d.expr(1+d.roll(4), nil))
		default:
			fmt.Fprintf(&b, "%sgen \"%d/x\"= %s;", space(), i, d.expr(1+d.roll(4), nil))
		}
	}
	return b.String()
}

// parse returns the source of a text.
func parse(t *testing.T, s string) api.Source {
	t.Helper()
	f, at, e := source.Parse(s)
	if e != api.OK {
		t.Fatalf("Parse of %q: error %d at %d", s, e, at)
	}
	return f
}

// alone returns the file of a declaration without the others.
func alone(f api.Source, i int) api.Source {
	return api.Source{Package: f.Package, Imports: f.Imports, Decls: f.Decls[i : i+1]}
}

// copyOf returns a source that shares no memory with f, with nil slices for empty ones.
func copyOf(f api.Source) api.Source {
	f.Imports, f.Decls = append([]string(nil), f.Imports...), append([]api.Decl(nil), f.Decls...)
	for i := range f.Decls {
		n := &f.Decls[i]
		n.Params, n.Body = append([]string(nil), n.Params...), append([]api.Expr(nil), n.Body...)
		for k := range n.Body {
			n.Body[k].Args = append([]int(nil), n.Body[k].Args...)
		}
	}
	return f
}

// equal tells whether sources are equal, where a nil slice and an empty one are the same.
func equal(a, b api.Source) bool { return reflect.DeepEqual(copyOf(a), copyOf(b)) }
