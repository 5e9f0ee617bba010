package entitydiff_test

import (
	"fmt"
	"strings"

	"testgate/api"
	"testgate/revision"
)

// dice gives numbers that look random and are the same in every run.
type dice uint64

// roll returns a number from 0 to n - 1.
func (d *dice) roll(n int) int {
	*d = *d*6364136223846793005 + 1442695040888963407
	return int(uint64(*d)>>33) % n
}

// pick returns one of the words of a text.
func (d *dice) pick(words string) string {
	l := strings.Fields(words)
	return l[d.roll(len(l))]
}

// What random points consist of, and one of each that none has.
const (
	pkgs  = "p q r s none"
	names = "f g t none"
	paths = "g a.dat a.src b.src c/d.src e.src f.src m/n.src z.src .src none.src"
	gens  = "g a.dat a.src none"
	vars  = "os p none"
)

// universe returns the keys of all kinds of all names and paths, in no order.
func universe() (l []api.Key) {
	for a := range strings.FieldsSeq(pkgs) {
		l = append(l, api.Key{Kind: api.KeyTree, A: a}, api.Key{Kind: api.KeyFiles, A: a})
		for b := range strings.FieldsSeq(names) {
			l = append(l, api.Key{Kind: api.KeyTest, A: a, B: b}, api.Key{Kind: api.KeyFunc, A: a, B: b})
		}
	}
	for a := range strings.FieldsSeq(vars) {
		l = append(l, api.Key{Kind: api.KeyEnv, A: a})
	}
	for a := range strings.FieldsSeq(paths) {
		l = append(l, api.Key{Kind: api.KeyData, A: a})
	}
	for a := range strings.FieldsSeq(gens) {
		l = append(l, api.Key{Kind: api.KeyGen, A: a})
	}
	return l
}

// present returns the words of a text but the last one, which no point has.
func present(words string) string { return words[:strings.LastIndex(words, " ")] }

// bytes returns the bytes of a random file: most are a source file, and some of these are broken.
func (d *dice) bytes() string {
	if d.roll(6) == 0 {
		return d.pick("- = ? 1 package")
	}
	pkg := d.pick(present(pkgs))
	s := "package " + pkg + "; "
	for other := range strings.FieldsSeq(pkgs) {
		if other != pkg && d.roll(4) == 0 {
			s += "import " + other + "; "
		}
	}
	for name := range strings.FieldsSeq(present(names)) {
		if d.roll(3) == 0 {
			s += "func " + name + "(x) = " + d.body() + "; "
		}
		if d.roll(4) == 0 {
			s += "test " + name + " = " + d.body() + "; "
		}
	}
	if d.roll(3) == 0 {
		s += "gen \"" + d.pick(present(gens)) + "\" = " + d.body() + "; "
	}
	if d.roll(8) == 0 {
		s += "package"
	}
	return s
}

// body returns a random body.
func (d *dice) body() string {
	switch d.roll(8) {
	case 0:
		return "read(\"" + d.pick(gens) + "\", 0)"
	case 1:
		return "has(\"" + d.pick(paths) + "\")"
	case 2:
		return "env(\"" + d.pick(vars) + "\")"
	case 3:
		return "flip(" + d.pick("0 1") + ")"
	case 4, 5:
		return d.pick(names) + "(" + d.pick("0 1") + ")"
	}
	return d.pick("0 1 2")
}

// point returns a random point.
func (d *dice) point() (p point) {
	for path := range strings.FieldsSeq(present(paths)) {
		if d.roll(3) > 0 {
			p.r = put(p.r, path, d.bytes())
		}
	}
	return d.set(d.set(p))
}

// set returns a point with another value of a variable, or without it.
func (d *dice) set(p point) point {
	name := d.pick(present(vars))
	var env api.Environment
	for v := range strings.FieldsSeq(present(vars)) {
		for _, old := range p.env.Variables {
			if old.Name == v && v != name {
				env.Variables = append(env.Variables, old)
			}
		}
		if v == name && d.roll(4) > 0 {
			env.Variables = append(env.Variables, api.Variable{Name: v, Value: d.roll(3)})
		}
	}
	return point{p.r, env}
}

// changed returns a point after a random change.
func (d *dice) changed(p point) point {
	if len(p.r.Files) == 0 {
		return d.point()
	}
	f := p.r.Files[d.roll(len(p.r.Files))]
	switch d.roll(9) {
	case 0:
		return d.set(p)
	case 1:
		return point{without(p.r, f.Path), p.env}
	case 2:
		return point{d.moved(p.r, f), p.env}
	case 3:
		return point{put(p.r, f.Path, d.blanks(f.Bytes)), p.env}
	case 4: // other numbers
		return point{put(p.r, f.Path, strings.NewReplacer("0", "1", "1", "0").Replace(f.Bytes)), p.env}
	case 5: // a declaration more
		return point{put(p.r, f.Path, f.Bytes+fmt.Sprintf("func %s() = %d; ", d.pick(present(names)), d.roll(3))), p.env}
	case 6: // an import more
		return point{put(p.r, f.Path, strings.Replace(f.Bytes, "; ", "; import "+d.pick(pkgs)+"; ", 1)), p.env}
	case 7: // a mistake more
		return point{put(p.r, f.Path, f.Bytes+"$"), p.env}
	}
	return point{put(p.r, d.pick(present(paths)), d.bytes()), p.env}
}

// moved returns a revision in which a file has another path: that of a source file, if it was one. There is at most one file less.
func (d *dice) moved(r api.Revision, f api.File) api.Revision {
	for range 20 {
		to := d.pick(present(paths))
		if m, e := revision.Move(r, f.Path, to); e == api.OK && revision.IsSource(to) == revision.IsSource(f.Path) {
			return m
		}
	}
	return r
}

// blanks returns a source file with other blanks and comments.
func (d *dice) blanks(s string) string {
	blank := []string{"\t", "\r\n", "  ", " # f() $\n"}[d.roll(4)]
	return strings.ReplaceAll(s, " ", blank) + []string{"", "\n", "# end"}[d.roll(3)]
}
