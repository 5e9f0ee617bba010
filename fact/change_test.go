package fact_test

import (
	"fmt"
	"maps"
	"slices"
	"strings"
	"testing"

	"testgate/api"
	"testgate/evaluate"
	"testgate/fact"
	"testgate/packages"
	"testgate/revision"
)

// shape returns what a key has, in a form in which no two different things are equal.
func (g given) shape(k api.Key) string {
	switch k.Kind {
	case api.KeyFiles:
		return fmt.Sprintf("%q", g.files(k.A))
	case api.KeyTree:
		var l [][]string
		for _, pkg := range g.tree(k.A) {
			l = append(l, []string{pkg}, g.files(pkg))
		}
		return fmt.Sprintf("%q", l)
	case api.KeyData:
		at := slices.IndexFunc(g.l, func(d draft) bool { return d.path == k.A })
		if at < 0 {
			return "none"
		}
		return fmt.Sprintf("%q", g.l[at].text())
	case api.KeyEnv:
		v, set := g.vars[k.A]
		return fmt.Sprint(v, set)
	}
	texts := g.texts(k)
	if len(texts) > 1 {
		return "ambiguous"
	}
	return fmt.Sprintf("%q", texts)
}

// changes are the changes of a revision and an environment that are made.
var changes = []func(d *dice, g *given, x *draft){
	func(d *dice, g *given, x *draft) { // another body
		if n := len(x.decls); n > 0 {
			y := &x.decls[d.roll(n)]
			y.body = d.expression(1+d.roll(3), y.params)
		}
	},
	func(d *dice, g *given, x *draft) { // a declaration less
		if n := len(x.decls); n > 0 {
			i := d.roll(n)
			x.decls = slices.Delete(x.decls, i, i+1)
		}
	},
	func(d *dice, g *given, x *draft) { // a declaration more
		x.decls = added(x.decls, d.declared())
	},
	func(d *dice, g *given, x *draft) { // another order, and other blanks
		slices.Reverse(x.decls)
		x.blank = d.pick(blanks)
	},
	func(d *dice, g *given, x *draft) { // other imports, or in another order
		x.imports = append(slices.DeleteFunc(d.draft("a.src").imports, func(pkg string) bool { return pkg == x.pkg || slices.Contains(x.imports, pkg) }), x.imports...)
		x.imports = x.imports[:d.roll(len(x.imports)+1)]
	},
	func(d *dice, g *given, x *draft) { // another package
		if pkg := d.pick(pkgs); x.pkg != "" && !slices.Contains(x.imports, pkg) {
			x.pkg = pkg
		}
	},
	func(d *dice, g *given, x *draft) { // a comment, or other data
		x.bytes += "\n# " + d.pick(funcNames)
	},
	func(d *dice, g *given, x *draft) { // a mistake, or none
		x.hidden = !x.hidden
	},
	func(d *dice, g *given, x *draft) { // another path
		x.path = g.free(d)
	},
	func(d *dice, g *given, x *draft) { // a file less
		g.l = slices.DeleteFunc(g.l, func(y draft) bool { return y.path == x.path })
	},
	func(d *dice, g *given, x *draft) { // a file more
		g.l = append(g.l, d.draft(g.free(d)))
	},
	func(d *dice, g *given, x *draft) { // another value, or none
		name := d.pick(varNames)
		delete(g.vars, name)
		if d.roll(3) > 0 {
			g.vars[name] = d.number()
		}
	},
}

// free returns a path that no draft has.
func (g given) free(d *dice) string {
	all := slices.Concat(sourcePaths, dataPaths, paths, strings.Fields("0.src new/file.src zz.src"))
	return d.pick(slices.DeleteFunc(all, func(path string) bool {
		return slices.ContainsFunc(g.l, func(x draft) bool { return x.path == path })
	}))
}

// changed returns what is given after a change that is made twice.
func (g given) changed(d *dice, change func(d *dice, g *given, x *draft)) given {
	g.l, g.vars = slices.Clone(g.l), maps.Clone(g.vars)
	for i, x := range g.l {
		g.l[i].decls, g.l[i].imports = slices.Clone(x.decls), slices.Clone(x.imports)
	}
	for range 2 {
		change(d, &g, &g.l[d.roll(len(g.l))])
	}
	slices.SortFunc(g.l, func(a, b draft) int { return strings.Compare(a.path, b.path) })
	return g
}

// wantShapes checks that the keys whose contents are the same at a and at b are those that have the same there, and returns how many are and are not.
func wantShapes(t *testing.T, a, b given, keys []api.Key) (same, others int) {
	t.Helper()
	before := contents(t, a.revision(), a.environment(), keys)
	after := contents(t, b.revision(), b.environment(), keys)
	for i, k := range keys {
		if (before[i] == after[i]) != (a.shape(k) == b.shape(k)) {
			t.Errorf("%v has the content %q at %q, and %q at %q", k, before[i], a.revision(), after[i], b.revision())
		}
		if before[i] == after[i] {
			same++
		} else {
			others++
		}
	}
	return same, others
}

// TestDifferentContents makes changes of random revisions and environments: contents are the same string exactly if nothing changed (P11.4).
func TestDifferentContents(t *testing.T) {
	d := dice(4)
	for n, change := range changes {
		same, others := 0, 0
		for range 12 {
			a := d.given()
			s, o := wantShapes(t, a, a.changed(&d, change), allKeys())
			same, others = same+s, others+o
		}
		if same < 100 || others < 3 {
			t.Errorf("change %d: %d contents are the same, and %d are not", n, same, others)
		}
	}
}

// TestSimilarContents has revisions in which the bytes of one file look like other files, or like a content of nothing.
func TestSimilarContents(t *testing.T) {
	const p, q = "package p;import q;#", "package q;#"
	all := []api.Revision{
		of(), of("a.src", p), of("b.src", p), of("a.src", p, "b.src", p), of("a.src", p, "b.src", p+p), of("a.src", p+p, "b.src", p),
		of("a.src", p+"b.src"+p), of("a.src", p+packed("b.src", p)), of("a.src", p+packed("b.src")+p), of("a.src", p+"\x00b.src\x00"+p), of("a.src", p+" b.src "+p), of("a.src", p+packed("")),
		of("a.src", q), of("b.src", q), of("a.src", p, "b.src", q), of("a.src", q, "b.src", p), of("a.src", p, "b.src", q, "c.src", q), of("a.src", p, "b.src", q+packed("c.src", q)), of("a.src", p, "b.src", q+"c.src"+q),
		of("a.src", p+"q=b.src"+q), of("a.src", p+"q="), of("a.src", p+packed("q", "=")), of("a.src", p+packed("q", "="+packed("b.src", q))), of("a.src", p+packed("b.src", q)), of("a.src", p+"b.src"+q), of("a.src", p+packed("q", "=")+packed("b.src", q)),
	}
	for _, bytes := range []string{"", "-", "=", "?", "=-", "\x00", "0"} {
		all = append(all, of("a", bytes), of("a", bytes, "b", ""))
	}
	for i, r := range all {
		for _, s := range all[:i] {
			wantEqual(t, key("files p"), r, s, sameFiles(r, s, "p"))
			wantEqual(t, key("files q"), r, s, sameFiles(r, s, "q"))
			wantEqual(t, key("tree p"), r, s, sameFiles(r, s, "p") && (sameFiles(r, s, "q") || len(packages.Files(r, "p")) == 0))
			wantEqual(t, key("data a"), r, s, sameData(r, s, "a"))
			wantEqual(t, key("data a.src"), r, s, sameData(r, s, "a.src"))
		}
	}
}

// wantEqual checks whether a key has the same content at two revisions.
func wantEqual(t *testing.T, k api.Key, r, s api.Revision, want bool) {
	t.Helper()
	x, y := contents(t, r, api.Environment{}, []api.Key{k}), contents(t, s, api.Environment{}, []api.Key{k})
	if slices.Equal(x, y) != want {
		t.Errorf("%v has the content %q at %q, and %q at %q", k, x, r, y, s)
	}
}

func sameFiles(r, s api.Revision, pkg string) bool {
	return slices.Equal(packages.Files(r, pkg), packages.Files(s, pkg))
}

func sameData(r, s api.Revision, path string) bool {
	x, found := revision.Find(r, path)
	y, also := revision.Find(s, path)
	return x == y && found == also
}

// TestCoarseContents makes changes of random revisions. Where the content of KeyFiles is the same, so are those of the names of the package; where that of KeyTree is, so are those of KeyFiles of its packages (P11.4).
func TestCoarseContents(t *testing.T) {
	d := dice(5)
	seen := map[string]int{}
	for n := range 20 * len(changes) {
		a := d.given()
		r, s := a.revision(), a.changed(&d, changes[n%len(changes)]).revision()
		for _, pkg := range pkgs {
			var names, files []api.Key
			for _, name := range slices.Concat(funcNames, testNames) {
				names = append(names, key("func "+pkg+" "+name), key("test "+pkg+" "+name))
			}
			for _, in := range a.tree(pkg) {
				files = append(files, key("files "+in))
			}
			wantFiner(t, r, s, seen, key("files "+pkg), names)
			wantFiner(t, r, s, seen, key("tree "+pkg), files)
		}
	}
	for _, what := range []string{"kind 6: -1", "kind 6: 0", "kind 7: -1", "kind 7: 0"} {
		if seen[what] < 100 {
			t.Errorf("only %d times %s", seen[what], what)
		}
	}
}

// wantFiner checks that finer keys have the same contents at r and at s if a key has, and counts what Holds returns for this key.
func wantFiner(t *testing.T, r, s api.Revision, seen map[string]int, k api.Key, finer []api.Key) {
	t.Helper()
	var env api.Environment
	at := holds(t, s, env, []api.Key{k}, contents(t, r, env, []api.Key{k}))
	seen[fmt.Sprintf("kind %d: %d", k.Kind, at)]++
	if i := holds(t, s, env, finer, contents(t, r, env, finer)); at == -1 && i != -1 {
		t.Errorf("%v has the same content at %q and at %q, but not %v", k, r, s, finer[i])
	}
}

// TestTraceDecides makes changes of random revisions and environments. Where the contents of a trace hold, the run is the same (P11.4).
func TestTraceDecides(t *testing.T) {
	d := dice(6)
	for n, change := range changes {
		held, others, differ, random := 0, 0, 0, 0
		for range 50 {
			a := d.given()
			b := a.changed(&d, change)
			r, env, s, other, word := a.revision(), a.environment(), b.revision(), b.environment(), d.bits()
			for _, test := range packages.Tests(r) {
				before, _ := evaluate.Run(r, env, word, test)
				after, e := evaluate.Run(s, other, word, test)
				if same := e == api.OK && sameRun(before, after); holds(t, s, other, before.Trace, contents(t, r, env, before.Trace)) != -1 {
					others++
					if !same {
						differ++
					}
				} else if held++; !same {
					t.Errorf("change %d: %v is %v at %q in %v, and %v at %q in %v", n, test, before, r, env, after, s, other)
				} else if before.Random {
					random++
				} else if after, _ = evaluate.Run(s, other, ^word, test); !sameRun(before, after) {
					t.Errorf("change %d: %v is %v at %q in %v, and with another word %v at %q in %v", n, test, before, r, env, after, s, other)
				}
			}
		}
		if reordered := n == 3; held < 100 || random < 3 || (others < 10 || differ == 0) && !reordered {
			t.Errorf("change %d: the traces of %d runs hold, %d of them random, and those of %d do not, of which %d differ", n, held, random, others, differ)
		}
	}
}

// sameRun compares runs.
func sameRun(a, b api.Run) bool {
	return a.Result == b.Result && a.Random == b.Random && slices.Equal(a.Trace, b.Trace) && a.Steps == b.Steps
}

// TestCommits has the first four examples of the document: which commits change a content of the trace of the test, and whether that is right.
func TestCommits(t *testing.T) {
	first := []string{"a.src", "package p; import q; test t = f(read(\"a.dat\", 0)) + has(\"b.dat\");", "a.dat", "12", "q.src", "package q; func f(x) = x; func g() = 1;"}
	asRevision := func(l []string) api.Revision {
		var files []api.File
		for _, f := range of(l...).Files {
			if f.Bytes != "none" {
				files = append(files, f)
			}
		}
		slices.SortFunc(files, func(a, b api.File) int { return strings.Compare(a.Path, b.Path) })
		return api.Revision{Files: files}
	}
	test := api.Name{Package: "p", Test: "t"}
	before, _ := evaluate.Run(asRevision(first), api.Environment{}, 0, test)
	if want := []api.Key{key("func p f"), key("func q f"), key("test p t"), key("gen b.dat"), key("data a.dat"), key("data b.dat")}; before.Result.Value != '1' || !slices.Equal(before.Trace, want) {
		t.Fatalf("the run is %v", before)
	}
	texts := contents(t, asRevision(first), api.Environment{}, before.Trace)
	for name, c := range map[string]struct {
		l       []string
		changed int
	}{
		"nothing":                {nil, -1},
		"a comment":              {[]string{"q.src", "# x\npackage q; func f(x) = (x); func g() = 1;"}, -1},
		"another path":           {[]string{"q.src", "none", "moved/file.src", "package q; func f(x) = x; func g() = 1;"}, -1},
		"another function":       {[]string{"q.src", "package q; func g() = 2; func f(x) = x;"}, -1},
		"a file for a function":  {[]string{"q.src", "package q; func g() = 1;", "r.src", "package q; func f(x) = x;"}, -1},
		"another parameter":      {[]string{"q.src", "package q; func f(y) = y;"}, 1},
		"a function that hides":  {[]string{"r.src", "package p; func f(x) = x;"}, 0},
		"an ambiguous function":  {[]string{"r.src", "package q; func f(x) = x;"}, 1},
		"a broken file":          {[]string{"q.src", "package q; func f(x) = x"}, 1},
		"another import":         {[]string{"q.src", "package q; import s; func f(x) = x;"}, 1},
		"another test":           {[]string{"a.src", "package p; import q; test t = f(read(\"a.dat\", 0)) + has(\"b.dat\") + 0;"}, 2},
		"another test of a file": {[]string{"a.src", "package p; import q; test u = 1; test t = f(read(\"a.dat\", 0)) + has(\"b.dat\");"}, -1},
		"a gen":                  {[]string{"r.src", "package r; gen \"b.dat\" = 1;"}, 3},
		"another gen":            {[]string{"r.src", "package r; gen \"a.dat\" = 1;"}, -1},
		"other data":             {[]string{"a.dat", "13"}, 4},
		"no data":                {[]string{"a.dat", "none"}, 4},
		"a file that was absent": {[]string{"b.dat", ""}, 5},
		"another file":           {[]string{"c.dat", "x"}, -1},
	} {
		l := slices.Clone(first)
		for i := 0; i < len(c.l); i += 2 {
			if at := slices.Index(l, c.l[i]); at >= 0 {
				l[at+1] = c.l[i+1]
			} else {
				l = append(l, c.l[i], c.l[i+1])
			}
		}
		r := asRevision(l)
		if at := holds(t, r, api.Environment{}, before.Trace, texts); at != c.changed {
			t.Errorf("%s: Holds is %d instead of %d", name, at, c.changed)
		}
		if after, _ := evaluate.Run(r, api.Environment{}, 0, test); c.changed == -1 && !sameRun(after, before) {
			t.Errorf("%s: the run is %v instead of %v", name, after, before)
		}
	}
	if i, e := fact.Holds(asRevision(first), api.Environment{}, before.Trace, texts); i != -1 || e != api.OK {
		t.Errorf("after a revert Holds is %d, error %d", i, e)
	}
}
