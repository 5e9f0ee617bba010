package level_test

import (
	"fmt"
	"slices"
	"strings"
	"unsafe"

	"testgate/api"
	"testgate/revision"
)

// key returns a key of a kind and its names in a text, like "func p f".
func key(s string) api.Key {
	kinds := map[string]int{"func": api.KeyFunc, "test": api.KeyTest, "gen": api.KeyGen, "data": api.KeyData, "env": api.KeyEnv, "files": api.KeyFiles, "tree": api.KeyTree}
	parts := append(strings.Fields(s), "")
	return api.Key{Kind: kinds[parts[0]], A: parts[1], B: parts[2]}
}

// overlap tells whether two strings have memory in common.
func overlap(a, b string) bool {
	if a == "" || b == "" {
		return false
	}
	x, y := uintptr(unsafe.Pointer(unsafe.StringData(a))), uintptr(unsafe.Pointer(unsafe.StringData(b)))
	return x < y+uintptr(len(b)) && y < x+uintptr(len(a))
}

// dice gives numbers that look random and are the same in every run.
type dice uint64

// roll returns a number from 0 to n - 1.
func (d *dice) roll(n int) int {
	*d = *d*6364136223846793005 + 1442695040888963407
	return int(uint64(*d)>>33) % n
}

// pick returns one of the words of a text.
func (d *dice) pick(words string) string {
	l := strings.Fields(words)
	return l[d.roll(len(l))]
}

// What random revisions consist of, and one of each that none has. Some packages are also gens, data and variables.
const (
	pkgs  = "p q r s none"
	funcs = "f g h none"
	tests = "t u none"
	paths = "p a.dat g a.src none"
	vars  = "p os none"
)

// allKeys returns a key of each kind and all names.
func allKeys() (l []api.Key) {
	for pkg := range strings.FieldsSeq(pkgs) {
		for name := range strings.FieldsSeq(funcs) {
			l = append(l, key("func "+pkg+" "+name))
		}
		for name := range strings.FieldsSeq(tests) {
			l = append(l, key("test "+pkg+" "+name))
		}
		l = append(l, key("files "+pkg), key("tree "+pkg))
	}
	for path := range strings.FieldsSeq(paths) {
		l = append(l, key("gen "+path), key("data "+path))
	}
	for name := range strings.FieldsSeq(vars) {
		l = append(l, key("env "+name))
	}
	return l
}

// file returns the bytes of a random source file. Functions call functions with later names, so that a run ends soon.
func (d *dice) file() string {
	pkg := d.pick("p q r s")
	s := "package " + pkg + "; "
	for name := range strings.FieldsSeq("p q r s") {
		if name != pkg && d.roll(3) == 0 {
			s += "import " + name + "; "
		}
	}
	if d.roll(2) > 0 {
		s += "func f(x) = x + " + d.operand("g h") + "; "
	}
	if d.roll(2) > 0 {
		s += "func g(x) = x * " + d.operand("h") + "; "
	}
	if d.roll(2) > 0 {
		s += "func h(x) = " + d.operand("") + " < x; "
	}
	if d.roll(3) > 0 {
		s += "test t = " + d.operand("f g h") + " + " + d.operand("f g h") + "; "
	}
	if d.roll(2) > 0 {
		s += "test u = " + d.operand("f g h") + "; "
	}
	if d.roll(5) == 0 {
		s += fmt.Sprintf("gen %q = %s; ", d.pick("p g"), d.operand("f g h"))
	}
	if d.roll(8) == 0 {
		s += "test"
	}
	return s
}

// operand returns an expression that can call some functions.
func (d *dice) operand(names string) string {
	if names != "" && d.roll(3) > 0 {
		return d.pick(names) + "(" + d.pick("0 1 2") + ")"
	}
	switch d.roll(6) {
	case 0:
		return fmt.Sprintf("read(%q, 0)", d.pick(paths))
	case 1:
		return fmt.Sprintf("has(%q)", d.pick(paths))
	case 2:
		return fmt.Sprintf("env(%q)", d.pick(vars))
	case 3:
		return "flip(3)"
	}
	return d.pick("0 1 2 3")
}

// given is a revision and an environment.
type given struct {
	r   api.Revision
	env api.Environment
}

// put returns what is given with new bytes of a file, or without it.
func (g given) put(path, bytes string, present bool) given {
	files := slices.DeleteFunc(slices.Clone(g.r.Files), func(f api.File) bool { return f.Path == path })
	if present {
		files = append(files, api.File{Path: path, Bytes: bytes})
	}
	slices.SortFunc(files, func(a, b api.File) int { return strings.Compare(a.Path, b.Path) })
	g.r = api.Revision{Files: files}
	return g
}

// set returns what is given with another value of a variable, or without it.
func (g given) set(name string, value int, present bool) given {
	l := slices.DeleteFunc(slices.Clone(g.env.Variables), func(v api.Variable) bool { return v.Name == name })
	if present {
		l = append(l, api.Variable{Name: name, Value: value})
	}
	slices.SortFunc(l, func(a, b api.Variable) int { return strings.Compare(a.Name, b.Name) })
	g.env = api.Environment{Variables: l}
	return g
}

// given returns a random revision and environment.
func (d *dice) given() (g given) {
	for path := range strings.FieldsSeq("a.src b.src c.src d.src e.src x/y.src a.dat g p") {
		g = d.other(g, path)
	}
	return g.set("os", d.roll(3), d.roll(2) > 0).set("p", d.roll(3), d.roll(2) > 0)
}

// other returns what is given with another file at a path.
func (d *dice) other(g given, path string) given {
	if revision.IsSource(path) {
		return g.put(path, d.file(), d.roll(8) > 0)
	}
	return g.put(path, d.pick("1 2 - ="), d.roll(2) > 0)
}

// changed returns what is given after a change.
func (d *dice) changed(g given) given {
	if len(g.r.Files) == 0 {
		return d.given()
	}
	f := g.r.Files[d.roll(len(g.r.Files))]
	switch d.roll(8) {
	case 0:
		return d.other(g, f.Path)
	case 1: // another comment
		return g.put(f.Path, f.Bytes+"\n# x", true)
	case 2: // other numbers
		return g.put(f.Path, strings.NewReplacer("1", "2", "2", "3").Replace(f.Bytes), true)
	case 3: // another path
		return g.put(f.Path, "", false).put("moved/"+f.Path, f.Bytes, len(f.Path) < 40)
	case 4: // a function more
		return g.put(f.Path, strings.Replace(f.Bytes, "; ", "; func "+d.pick(funcs)+"(x) = 1; ", 1), true)
	case 5: // an import more
		return g.put(f.Path, strings.Replace(f.Bytes, "; ", "; import none; ", 1), true)
	case 6:
		return g.set(d.pick("os p"), d.roll(3), d.roll(2) > 0)
	}
	return d.other(g, d.pick("a.dat g p new.src"))
}
