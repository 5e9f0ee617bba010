package evaluate_test

import (
	"fmt"
	"maps"
	"slices"
	"strings"
	"testing"

	"testgate/api"
	"testgate/evaluate"
	"testgate/mention"
	"testgate/packages"
	"testgate/revision"
)

// content returns what a key has (chapter 11).
func content(t *testing.T, g given, k api.Key) string {
	t.Helper()
	switch k.Kind {
	case api.KeyFunc:
		return entityContent(t, packages.Find(g.r, api.DeclFunc, k.A, k.B), g.r)
	case api.KeyTest:
		return entityContent(t, packages.Find(g.r, api.DeclTest, k.A, k.B), g.r)
	case api.KeyGen:
		return entityContent(t, packages.Find(g.r, api.DeclGen, "", k.A), g.r)
	case api.KeyData:
		if s, ok := revision.Find(g.r, k.A); ok {
			return "=" + s
		}
	case api.KeyEnv:
		if v, ok := evaluate.Variable(g.env, k.A); ok {
			return fmt.Sprint("=", v)
		}
	}
	return "-"
}

// entityContent returns what the key of an entity has.
func entityContent(t *testing.T, x api.Entity, r api.Revision) string {
	t.Helper()
	if x.Count == 0 {
		return "-"
	}
	if x.Count > 1 {
		return "?"
	}
	f, i, _ := packages.Decl(r, x)
	s, e := mention.Text(f, i)
	if e != api.OK {
		t.Errorf("Text of %v: error %d", x, e)
	}
	return "=" + s
}

// agree tells whether all keys have the same contents.
func agree(t *testing.T, a, b given, keys []api.Key) bool {
	t.Helper()
	return !slices.ContainsFunc(keys, func(k api.Key) bool { return content(t, a, k) != content(t, b, k) })
}

// changes are the changes of files that are made, besides those of variables.
var changes = []func(d *dice, l []draft, at int) []draft{
	func(d *dice, l []draft, at int) []draft { // another body
		if n := len(l[at].decls); n > 0 {
			x := &l[at].decls[d.roll(n)]
			x.body = d.tree(1+d.roll(3), len(x.params))
		}
		return l
	},
	func(d *dice, l []draft, at int) []draft { // a declaration less
		if n := len(l[at].decls); n > 0 {
			i := d.roll(n)
			l[at].decls = slices.Delete(l[at].decls, i, i+1)
		}
		return l
	},
	func(d *dice, l []draft, at int) []draft { // a declaration more
		l[at].decls = added(l[at].decls, d.declared())
		return l
	},
	func(d *dice, l []draft, at int) []draft { // another order
		slices.Reverse(l[at].decls)
		return l
	},
	func(d *dice, l []draft, at int) []draft { // other imports
		l[at].imports = slices.DeleteFunc(d.imports(), func(pkg string) bool { return pkg == l[at].pkg })
		return l
	},
	func(d *dice, l []draft, at int) []draft { // another package
		if pkg := d.pick(pkgs); l[at].pkg != "" && !slices.Contains(l[at].imports, pkg) {
			l[at].pkg = pkg
		}
		return l
	},
	func(d *dice, l []draft, at int) []draft { // a comment, or other data
		l[at].bytes += "\n# " + d.pick(funcNames)
		return l
	},
	func(d *dice, l []draft, at int) []draft { // a mistake, or none
		l[at].hidden = !l[at].hidden
		return l
	},
	func(d *dice, l []draft, at int) []draft { // another path
		l[at].path = d.free(l)
		return l
	},
	func(d *dice, l []draft, at int) []draft { // a file less
		return slices.Delete(l, at, at+1)
	},
	func(d *dice, l []draft, at int) []draft { // a file more
		return append(l, d.draft(d.free(l)))
	},
}

// free returns a path that no draft has.
func (d *dice) free(l []draft) string {
	all := slices.Concat(sourcePaths, dataPaths, strings.Fields("0.src new/file.src zz.src gen/a gen/b h none"))
	return d.pick(slices.DeleteFunc(all, func(path string) bool {
		return slices.ContainsFunc(l, func(x draft) bool { return x.path == path })
	}))
}

// changed returns drafts after two changes of a kind.
func (d *dice) changed(l []draft, change func(d *dice, l []draft, at int) []draft) []draft {
	l = slices.Clone(l)
	for i := range l {
		l[i].decls = slices.Clone(l[i].decls)
	}
	for range 2 {
		l = change(d, l, d.roll(len(l)))
	}
	slices.SortFunc(l, func(a, b draft) int { return strings.Compare(a.path, b.path) })
	return l
}

// changedVariables returns variables after some of them were set or removed.
func (d *dice) changedVariables(vars map[string]int) map[string]int {
	vars = maps.Clone(vars)
	for range 4 {
		name := d.pick(append([]string{"new"}, varNames...))
		delete(vars, name)
		if d.roll(3) > 0 {
			vars[name] = d.number()
		}
	}
	return vars
}

// TestTraceDecides makes changes of random revisions and environments. Where the keys of a trace have the same contents, all is the same (P10.4).
func TestTraceDecides(t *testing.T) {
	d := dice(2)
	for n := range len(changes) + 1 {
		agreed, differ := 0, 0
		for range 60 {
			l, vars, word := d.drafts(), d.variables(), d.bits()
			a := given{revisionOf(l), environment(vars), word}
			b := a
			if n < len(changes) {
				b.r = revisionOf(d.changed(l, changes[n]))
			} else {
				b.env = environment(d.changedVariables(vars))
			}
			for _, name := range packages.Tests(a.r) {
				before, after := a.run(t, name.Package, name.Test), b.run(t, name.Package, name.Test)
				same, as := after.same(before), agree(t, a, b, before.run.Trace)
				if as {
					agreed++
				}
				if !same {
					differ++
				}
				if as && !same {
					t.Errorf("change %d: %v at %q in %v, and %v at %q in %v", n, before, a.r, a.env, after, b.r, b.env)
				}
			}
		}
		if sameContents := n == 3; agreed < 100 || differ < 3 && !sameContents {
			t.Errorf("change %d: %d runs agreed, and %d differ", n, agreed, differ)
		}
	}
}

// TestUnusedBits changes all bits of the word that a run did not use.
func TestUnusedBits(t *testing.T) {
	d := dice(3)
	random, others := 0, 0
	for range 300 {
		l, vars, word := d.drafts(), d.variables(), d.bits()
		for _, pkg := range pkgs {
			for _, test := range testNames {
				a, m := compare(t, l, vars, word, api.Key{Kind: api.KeyTest, A: pkg, B: test})
				if a.run.Random != (m.used != 0) {
					t.Errorf("%v used the bits %x", a, m.used)
				}
				if a.run.Random {
					random++
				} else {
					others++
				}
				g := given{revisionOf(l), environment(vars), word&m.used | ^word&^m.used}
				if b := g.run(t, pkg, test); !b.same(a) {
					t.Errorf("%v with the word %x, and %v with %x, but it used only %x", a, word, b, g.word, m.used)
				}
			}
		}
	}
	if random < 100 || others < 100 {
		t.Errorf("%d runs were random, and %d were not", random, others)
	}
}

// TestNotInTrace changes, for random runs, each thing that the trace does not have: it does not matter.
func TestNotInTrace(t *testing.T) {
	d := dice(4)
	seen := map[int]int{}
	for range 60 {
		l, vars := d.drafts(), d.variables()
		g := given{r: revisionOf(l), env: environment(vars)}
		pkg, test := d.pick(pkgs), d.pick(testNames)
		a := g.run(t, pkg, test)
		if a.e != api.OK {
			continue
		}
		has := func(kind int, x, y string) bool {
			return slices.Contains(a.run.Trace, api.Key{Kind: kind, A: x, B: y})
		}
		want := func(k int, what string, b given) {
			seen[k]++
			if got := b.run(t, pkg, test); !got.same(a) {
				t.Errorf("%v at %q, and %v with %s", a, g.r, got, what)
			}
		}
		for _, name := range append([]string{"new"}, varNames...) {
			if b := g; !has(api.KeyEnv, name, "") {
				other := maps.Clone(vars)
				other[name] = 1234
				b.env = environment(other)
				want(api.KeyEnv, name, b)
				delete(other, name)
				b.env = environment(other)
				want(api.KeyEnv, "no "+name, b)
			}
		}
		for _, path := range append([]string{"new"}, paths...) {
			if b := g; !has(api.KeyData, path, "") && !revision.IsSource(path) {
				b.r, _ = revision.Put(g.r, path, "something else")
				want(api.KeyData, path, b)
			}
			if b := g; !has(api.KeyGen, path, "") {
				b.r, _ = revision.Put(g.r, "0.src", "package s; gen \""+path+"\" = 1234;")
				want(api.KeyGen, "a gen "+path, b)
			}
		}
		for _, in := range append([]string{"new"}, pkgs...) {
			for _, name := range funcNames {
				if b := g; !has(api.KeyFunc, in, name) {
					b.r, _ = revision.Put(g.r, "0.src", "package "+in+"; func "+name+"() = 1234;")
					want(api.KeyFunc, "a function "+in+" "+name, b)
				}
			}
			b := g
			b.r, _ = revision.Put(g.r, "0.src", "package "+in+"; test other = 1; test none = 1;")
			want(api.KeyTest, "other tests", b)
		}
	}
	for _, kind := range []int{api.KeyEnv, api.KeyData, api.KeyGen, api.KeyFunc, api.KeyTest} {
		if seen[kind] < 50 {
			t.Errorf("only %d times something of the kind %d", seen[kind], kind)
		}
	}
}
