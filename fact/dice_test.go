package fact_test

import (
	"slices"
	"strings"

	"testgate/api"
	"testgate/revision"
)

// dice gives numbers that look random and are the same in every run.
type dice uint64

// roll returns a number from 0 to n - 1.
func (d *dice) roll(n int) int {
	*d = *d*6364136223846793005 + 1442695040888963407
	return int(uint64(*d)>>33) % n
}

// pick returns one of some strings.
func (d *dice) pick(l []string) string { return l[d.roll(len(l))] }

// bits returns a word.
func (d *dice) bits() uint64 {
	return uint64(d.roll(1<<31))<<33 ^ uint64(d.roll(1<<31))<<16 ^ uint64(d.roll(1<<31))
}

// What random revisions consist of. Some names are those of functions, tests, packages, gens and variables, and some paths those of files and gens. The last ones are only asked for.
var (
	sourcePaths = strings.Fields("a.src a/b.src m.src p.src q.src z/z.src")
	dataPaths   = strings.Fields("a.dat g p z/a")
	pkgs        = strings.Fields("p q s pp x none")
	funcNames   = strings.Fields("f g h t none")
	testNames   = strings.Fields("t u f none")
	paths       = strings.Fields("a.dat g p z/a h a.src none")
	varNames    = strings.Fields("os p z none")
	blanks      = []string{" ", "\t", "\r\n", " # p f \"g\";\n", "   "}
)

// allKeys returns a key of each kind and all names.
func allKeys() (l []api.Key) {
	for _, pkg := range pkgs {
		for _, name := range slices.Concat(funcNames, testNames) {
			l = append(l, key("func "+pkg+" "+name), key("test "+pkg+" "+name))
		}
		l = append(l, key("files "+pkg), key("tree "+pkg))
	}
	for _, path := range slices.Concat(paths, sourcePaths, dataPaths) {
		l = append(l, key("gen "+path), key("data "+path))
	}
	for _, name := range varNames {
		l = append(l, key("env "+name))
	}
	return l
}

// given returns a random revision and environment.
func (d *dice) given() (g given) {
	for _, path := range slices.Sorted(slices.Values(slices.Concat(sourcePaths, dataPaths))) {
		if d.roll(5) > 0 {
			g.l = append(g.l, d.draft(path))
		}
	}
	g.vars = map[string]int{}
	for _, name := range varNames[:len(varNames)-1] {
		if d.roll(4) > 0 {
			g.vars[name] = d.number()
		}
	}
	return g
}

// draft returns a draft of a file with a path.
func (d *dice) draft(path string) draft {
	if !revision.IsSource(path) && d.roll(4) > 0 {
		return draft{path: path, bytes: d.pick([]string{"", "-", "=", "?", "=-", "x\xffy", "package p", strings.Repeat("long ", 40)})}
	}
	x := draft{path: path, pkg: d.pick(pkgs[:len(pkgs)-2]), hidden: d.roll(8) == 0, blank: d.pick(blanks)}
	for range d.roll(4) {
		if pkg := d.pick(pkgs[:len(pkgs)-1]); pkg != x.pkg && !slices.Contains(x.imports, pkg) {
			x.imports = append(x.imports, pkg)
		}
	}
	for range 2 + d.roll(8) {
		x.decls = added(x.decls, d.declared())
	}
	return x
}

// added returns declarations with one more, unless there is one of the same kind with this name.
func added(l []declared, x declared) []declared {
	if slices.ContainsFunc(l, func(y declared) bool { return x.kind == y.kind && x.name == y.name }) {
		return l
	}
	return append(l, x)
}

// declared returns a declaration. Functions have a parameter, but for some.
func (d *dice) declared() (x declared) {
	switch d.roll(5) {
	case 0:
		x = declared{kind: api.DeclGen, name: d.pick(paths[:len(paths)-1])}
	case 1, 2:
		x = declared{kind: api.DeclTest, name: d.pick(testNames[:len(testNames)-1])}
	default:
		x = declared{kind: api.DeclFunc, name: d.pick(funcNames[:len(funcNames)-1]), params: "x"}
		if d.roll(20) == 0 {
			x.params = ""
		}
	}
	x.body = d.expression(1+d.roll(3), x.params)
	return x
}

// number returns a value.
func (d *dice) number() int {
	if d.roll(12) == 0 {
		return (1 - 2*d.roll(2)) * []int{api.MaxValue, 1 << 27, 256}[d.roll(3)]
	}
	return d.roll(9) - 3
}

// expression returns an expression as it stands in a canonical text.
func (d *dice) expression(depth int, params string) string {
	under := func() string { return d.expression(depth-1, params) }
	switch d.roll(4) {
	case 0:
		if depth > 0 {
			return "if " + under() + " then " + under() + " else " + under()
		}
	case 1, 2:
		return d.factor(depth, params) + " " + d.pick(strings.Fields("+ - * / % < ==")) + " " + d.factor(depth, params)
	}
	return d.factor(depth, params)
}

// factor returns an expression that needs no parentheses anywhere.
func (d *dice) factor(depth int, params string) string {
	path := "\"" + d.pick(paths) + "\""
	switch d.roll(12) {
	case 0:
		return "size(" + path + ")"
	case 1:
		return "has(" + path + ")"
	case 2:
		return "env(\"" + d.pick(varNames) + "\")"
	case 3:
		return "flip(" + d.pick(strings.Fields("0 1 7 63")) + ")"
	case 4, 5:
		if params != "" {
			return params
		}
	case 6, 7:
		if depth > 0 {
			return "read(" + path + ", " + d.expression(depth-1, params) + ")"
		}
	case 8, 9, 10:
		if depth > 0 {
			return d.pick(funcNames) + "(" + d.expression(depth-1, params) + ")"
		}
	}
	return d.pick(strings.Fields("0 0 1 1 2 3 -1 255 9007199254740992"))
}
