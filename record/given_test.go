package record_test

import (
	"fmt"
	"slices"
	"strings"

	"testgate/api"
	"testgate/revision"
)

// What random revisions consist of, and one of each that none has.
const (
	pkgs  = "p q r"
	funcs = "f g h none"
	paths = "a.dat b.dat g none"
	vars  = "os x none"
)

// given is a revision and an environment.
type given struct {
	r   api.Revision
	env api.Environment
}

// put returns what is given with new bytes of a file, or without it.
func (g given) put(path, bytes string, present bool) given {
	files := slices.DeleteFunc(slices.Clone(g.r.Files), func(f api.File) bool { return f.Path == path })
	if present {
		files = append(files, api.File{Path: path, Bytes: bytes})
	}
	slices.SortFunc(files, func(a, b api.File) int { return strings.Compare(a.Path, b.Path) })
	g.r = api.Revision{Files: files}
	return g
}

// set returns what is given with another value of a variable, or without it.
func (g given) set(name string, value int, present bool) given {
	l := slices.DeleteFunc(slices.Clone(g.env.Variables), func(v api.Variable) bool { return v.Name == name })
	if present {
		l = append(l, api.Variable{Name: name, Value: value})
	}
	slices.SortFunc(l, func(a, b api.Variable) int { return strings.Compare(a.Name, b.Name) })
	g.env = api.Environment{Variables: l}
	return g
}

// file returns the bytes of a random source file. Functions call functions with later names, so that a run ends soon.
func (d *dice) file() string {
	pkg := d.pick(pkgs)
	s := "package " + pkg + "; "
	for name := range strings.FieldsSeq(pkgs) {
		if name != pkg && d.roll(2) == 0 {
			s += "import " + name + "; "
		}
	}
	if d.roll(2) > 0 {
		s += "func f(x) = x + " + d.operand("g h") + "; "
	}
	if d.roll(2) > 0 {
		s += "func g(x) = if x then " + d.operand("h") + " else " + d.operand("h") + "; "
	}
	if d.roll(2) > 0 {
		s += "func h(x) = " + d.operand("") + " < x; "
	}
	if d.roll(3) > 0 {
		s += "test t = " + d.operand("f g h") + " + " + d.operand("f g h") + "; "
	}
	if d.roll(2) > 0 {
		s += "test u = if " + d.operand("f g h") + " then " + d.operand("f") + " else " + d.operand("g") + "; "
	}
	if d.roll(5) == 0 {
		s += fmt.Sprintf("gen %q = %s; ", d.pick("b.dat g"), d.operand("h"))
	}
	if d.roll(12) == 0 {
		s += "test"
	}
	return s
}

// operand returns an expression that can call some functions.
func (d *dice) operand(names string) string {
	if names != "" && d.roll(3) > 0 {
		return d.pick(names) + "(" + d.pick("0 1 2") + ")"
	}
	switch d.roll(7) {
	case 0:
		return fmt.Sprintf("read(%q, 0)", d.pick(paths))
	case 1:
		return fmt.Sprintf("has(%q)", d.pick(paths))
	case 2:
		return fmt.Sprintf("env(%q)", d.pick(vars))
	case 3:
		return "flip(3)"
	}
	return d.pick("0 1 2 3")
}

// given returns a random revision and environment.
func (d *dice) given() (g given) {
	for path := range strings.FieldsSeq("a.src b.src c.src d.src x/y.src a.dat b.dat g") {
		g = d.other(g, path)
	}
	return g.set("os", d.roll(3), d.roll(4) > 0).set("x", d.roll(3), d.roll(2) > 0)
}

// other returns what is given with another file at a path.
func (d *dice) other(g given, path string) given {
	if revision.IsSource(path) {
		return g.put(path, d.file(), d.roll(8) > 0)
	}
	return g.put(path, d.pick("1 2 - ="), d.roll(3) > 0)
}

// changed returns what is given after a change of the revision.
func (d *dice) changed(g given) given {
	if len(g.r.Files) == 0 {
		env := g.env
		g = d.given()
		g.env = env
		return g
	}
	f := g.r.Files[d.roll(len(g.r.Files))]
	switch d.roll(6) {
	case 0: // another comment
		return g.put(f.Path, f.Bytes+"\n# x", len(f.Bytes) < 2000)
	case 1: // other numbers
		return g.put(f.Path, strings.NewReplacer("1", "2", "2", "3", "3", "0").Replace(f.Bytes), true)
	case 2: // another path
		return g.put(f.Path, "", false).put("moved/"+f.Path, f.Bytes, len(f.Path) < 40)
	case 3: // a function more
		return g.put(f.Path, strings.Replace(f.Bytes, "; ", "; func "+d.pick(funcs)+"(x) = 1; ", 1), true)
	case 4:
		return d.other(g, f.Path)
	}
	return d.other(g, d.pick("a.dat b.dat g new.src"))
}
