package revision_test

import (
	"maps"
	"regexp"
	"slices"
	"strings"
	"testing"

	"testgate/api"
	"testgate/revision"
)

// putOf, removeOf and moveOf return what Put, Remove and Move have to do with the files in a map.
func putOf(m map[string]string, path, bytes string) (map[string]string, api.Errno) {
	if !isPath(path) {
		return nil, api.ErrText
	}
	out := maps.Clone(m)
	out[path] = bytes
	if len(bytes) > 16384 || len(out) > 64 {
		return nil, api.ErrLimit
	}
	return out, api.OK
}

func removeOf(m map[string]string, path string) (map[string]string, api.Errno) {
	if _, ok := m[path]; !ok {
		return nil, api.ErrUnknown
	}
	out := maps.Clone(m)
	delete(out, path)
	return out, api.OK
}

func moveOf(m map[string]string, from, to string) (map[string]string, api.Errno) {
	if !isPath(to) {
		return nil, api.ErrText
	}
	out, e := removeOf(m, from)
	if e != api.OK {
		return nil, e
	}
	if _, ok := m[to]; ok {
		return nil, api.ErrExists
	}
	out[to] = m[from]
	return out, api.OK
}

// compareChange checks the result of a change of r, and that r is as before.
func compareChange(t *testing.T, name string, r api.Revision, got api.Revision, e api.Errno, want map[string]string, wantE api.Errno) {
	t.Helper()
	if !equal(got, fromMap(want)) || e != wantE {
		t.Errorf("%s of %s: %s, error %d instead of %s, error %d", name, brief(r), brief(got), e, brief(fromMap(want)), wantE)
	}
	if e == api.OK && checkOf(got) != api.OK {
		t.Errorf("%s of %s: the result is no revision", name, brief(r))
	}
}

// compareChanges checks every function that finds or changes a file of the revision with the files in a map.
func compareChanges(t *testing.T, m map[string]string, paths, bytes []string) {
	t.Helper()
	r := fromMap(m)
	before := copyOf(r)
	for _, path := range paths {
		want, has := m[path]
		if s, ok := revision.Find(r, path); s != want || ok != has {
			t.Errorf("Find of %.90q in %s: %.20q, %v", path, brief(r), s, ok)
		}
		got, e := revision.Remove(r, path)
		model, wantE := removeOf(m, path)
		compareChange(t, "Remove of "+path, r, got, e, model, wantE)
		for _, s := range bytes {
			got, e := revision.Put(r, path, s)
			model, wantE := putOf(m, path, s)
			compareChange(t, "Put of "+path, r, got, e, model, wantE)
		}
		for _, to := range paths {
			got, e := revision.Move(r, path, to)
			model, wantE := moveOf(m, path, to)
			compareChange(t, "Move of "+path+" to "+to, r, got, e, model, wantE)
		}
	}
	if !equal(r, before) {
		t.Errorf("%s was changed to %s", brief(before), brief(r))
	}
}

// somePaths are paths that are neighbours in the order, and strings that are no paths.
func somePaths() []string {
	return []string{"a", "a.", "a/", "a/b", "a/b/c", "a0", "aa", "b", "b.src", ".src", "b_", "A", "", "/", "..", "z", longPath, longPath + "f", "a\n", "a ", "\xff"}
}

func TestChanges(t *testing.T) {
	d := dice(1)
	good := slices.DeleteFunc(somePaths(), func(s string) bool { return !isPath(s) })
	for range 60 {
		m := map[string]string{}
		for _, f := range d.revision(good...).Files {
			m[f.Path] = f.Bytes
		}
		compareChanges(t, m, somePaths(), []string{"", "new", long, long + "x"})
	}
	compareChanges(t, map[string]string{}, somePaths(), []string{"", "new", long, long + "x"})
}

// TestChangesAtTheLimit has as many files as possible, and one less.
func TestChangesAtTheLimit(t *testing.T) {
	for _, n := range []int{api.MaxFiles - 1, api.MaxFiles} {
		m := map[string]string{}
		for _, f := range full(n).Files {
			m[f.Path] = f.Bytes
		}
		paths := []string{"a", "f", "f00", "f000", "f31", "f31a", "f62", "f63", "f64", "z", "/", ""}
		compareChanges(t, m, paths, []string{"", "new", long, long + "x"})
	}
}

// TestChangesInSteps compares many changes, one after the other, with those of a map.
func TestChangesInSteps(t *testing.T) {
	d := dice(2)
	m, r := map[string]string{}, api.Revision{}
	part := func() string { return d.pick("a", "b", "c", "d.src", "0", "_", "A", "") }
	for range 6000 {
		path, other := part()+"/"+part(), part()+"/"+part()
		bytes := d.pick("", "1", "2", "a text", long+"x")
		var next api.Revision
		var model map[string]string
		var e, want api.Errno
		switch d.roll(4) {
		case 0, 1:
			next, e = revision.Put(r, path, bytes)
			model, want = putOf(m, path, bytes)
		case 2:
			next, e = revision.Remove(r, path)
			model, want = removeOf(m, path)
		case 3:
			next, e = revision.Move(r, path, other)
			model, want = moveOf(m, path, other)
		}
		compareChange(t, "a step with "+path, r, next, e, model, want)
		if e == api.OK {
			m, r = model, next
		}
	}
}

// TestErrorsInOrder has calls for which several errors apply.
func TestErrorsInOrder(t *testing.T) {
	r, most := of("a", "1", "c", "3"), full(api.MaxFiles)
	for _, c := range []struct {
		name string
		f    func() (api.Revision, api.Errno)
		e    api.Errno
	}{
		{"Put: no path, and too many bytes", func() (api.Revision, api.Errno) { return revision.Put(r, "/", long+"x") }, api.ErrText},
		{"Put: no path, and too many files", func() (api.Revision, api.Errno) { return revision.Put(most, "/", "") }, api.ErrText},
		{"Put: too many bytes of a file that is there", func() (api.Revision, api.Errno) { return revision.Put(r, "a", long+"x") }, api.ErrLimit},
		{"Put: too many bytes, and too many files", func() (api.Revision, api.Errno) { return revision.Put(most, "z", long+"x") }, api.ErrLimit},
		{"Put: too many files", func() (api.Revision, api.Errno) { return revision.Put(most, "a", "") }, api.ErrLimit},
		{"Remove: no path", func() (api.Revision, api.Errno) { return revision.Remove(r, "/") }, api.ErrUnknown},
		{"Remove: no files", func() (api.Revision, api.Errno) { return revision.Remove(api.Revision{}, "a") }, api.ErrUnknown},
		{"Move: to no path, from no file", func() (api.Revision, api.Errno) { return revision.Move(r, "b", "/") }, api.ErrText},
		{"Move: to no path, from a file", func() (api.Revision, api.Errno) { return revision.Move(r, "a", "") }, api.ErrText},
		{"Move: from no path, to no path", func() (api.Revision, api.Errno) { return revision.Move(r, "/", "/") }, api.ErrText},
		{"Move: from no path", func() (api.Revision, api.Errno) { return revision.Move(r, "/", "b") }, api.ErrUnknown},
		{"Move: from no file to a file", func() (api.Revision, api.Errno) { return revision.Move(r, "b", "a") }, api.ErrUnknown},
		{"Move: from no file to the same", func() (api.Revision, api.Errno) { return revision.Move(r, "b", "b") }, api.ErrUnknown},
		{"Move: to a file", func() (api.Revision, api.Errno) { return revision.Move(r, "a", "c") }, api.ErrExists},
		{"Move: to itself", func() (api.Revision, api.Errno) { return revision.Move(r, "c", "c") }, api.ErrExists},
	} {
		if got, e := c.f(); len(got.Files) > 0 || e != c.e {
			t.Errorf("%s: %s, error %d", c.name, brief(got), e)
		}
	}
}

// TestResultsShareNothing checks that results have memory of their own.
func TestResultsShareNothing(t *testing.T) {
	r := copyOf(of("a", "one", "b", "two", "c", long))
	files := append(make([]api.File, 0, 9), r.Files...) // with room behind its end
	r.Files = files
	path, bytes, from := strings.Clone("bb"), strings.Clone("three"), strings.Clone("b")
	for _, change := range []struct {
		name string
		f    func() (api.Revision, api.Errno)
	}{
		{"Put of a new file", func() (api.Revision, api.Errno) { return revision.Put(r, path, bytes) }},
		{"Put of other bytes", func() (api.Revision, api.Errno) { return revision.Put(r, from, bytes) }},
		{"Put at the end", func() (api.Revision, api.Errno) { return revision.Put(r, strings.Clone("d"), bytes) }},
		{"Remove", func() (api.Revision, api.Errno) { return revision.Remove(r, from) }},
		{"Remove of the last", func() (api.Revision, api.Errno) { return revision.Remove(r, "c") }},
		{"Move", func() (api.Revision, api.Errno) { return revision.Move(r, from, path) }},
	} {
		got, e := change.f()
		if e != api.OK {
			t.Fatalf("%s: error %d", change.name, e)
		}
		separate(t, change.name, got, []api.Revision{r}, path, bytes, from)
		if room := files[len(files):cap(files)]; slices.ContainsFunc(room, func(f api.File) bool { return f != api.File{} }) {
			t.Errorf("%s writes behind the files of its argument", change.name)
		}
	}
	if s, ok := revision.Find(r, "a"); !ok || s != "one" || shares(s, r.Files[0].Bytes) {
		t.Errorf("Find of a: %q, %v, which shares memory with the file or is wrong", s, ok)
	}
}

// TestExchange checks P7.4: Put and Remove of different paths can be exchanged.
func TestExchange(t *testing.T) {
	type change func(r api.Revision) (api.Revision, api.Errno)
	changesOf := func(path string) []change {
		return []change{
			func(r api.Revision) (api.Revision, api.Errno) { return revision.Put(r, path, "new") },
			func(r api.Revision) (api.Revision, api.Errno) { return revision.Put(r, path, "") },
			func(r api.Revision) (api.Revision, api.Errno) { return revision.Remove(r, path) },
		}
	}
	both := func(r api.Revision, first, then change) (api.Revision, api.Errno) {
		r, e := first(r)
		if e != api.OK {
			return r, e
		}
		return then(r)
	}
	paths := []string{"a", "a.b", "a/b", "b", longPath}
	d := dice(3)
	exchanged := 0
	for range 20 {
		r := d.revision(paths...)
		for i, path := range paths {
			for _, first := range changesOf(path) {
				for _, other := range paths[:i] {
					for _, then := range changesOf(other) {
						x, e := both(r, first, then)
						y, e2 := both(r, then, first)
						if !equal(x, y) || e != e2 {
							t.Errorf("changes of %s and %s in %s: %s, error %d, or %s, error %d", path, other, brief(r), brief(x), e, brief(y), e2)
						}
						if e == api.OK {
							exchanged++
						}
					}
				}
			}
		}
	}
	if exchanged < 500 {
		t.Errorf("only %d pairs of changes were possible", exchanged)
	}
}

func TestIsSource(t *testing.T) {
	pattern := regexp.MustCompile(`^[a-z0-9_./]+\.src$`)
	for s, want := range map[string]bool{
		"a.src": true, "a/b.src": true, "..src": true, ".src.src": true, "a/.src": true, "0.src": true, "src.src": true, "a.src/b.src": true, longPath[:76] + ".src": true,
		"": false, ".src": false, "src": false, "asrc": false, "a.src/b": false, "a.srcx": false, "a.Src": false, "a.src ": false, "a.src\n": false, "A.src": false, "/.src": false, "/a.src": false, "a//b.src": false, "a/b": false, "a.sr": false, "a src": false, ".src/": false, longPath[:77] + ".src": false, part + ".src": false, longPath: false,
	} {
		if got := revision.IsSource(s); got != want || got && !pattern.MatchString(s) {
			t.Errorf("IsSource of %.90q: %v", s, got)
		}
	}
	for n := range 256 {
		c := string([]byte{byte(n)})
		for _, s := range []string{c + ".src", "a" + c + "src", "a.s" + c + "c", "a.src" + c, "a/" + c + ".src"} {
			if got := revision.IsSource(s); got != (isPath(s) && pattern.MatchString(s)) {
				t.Errorf("IsSource of %q: %v", s, got)
			}
		}
	}
}

func TestSame(t *testing.T) {
	different := []api.Revision{{}, of("a", ""), of("a", "1"), of("b", ""), of("a", "", "b", ""), of("a", "", "b", "1"), of("b", "", "a", ""), of("a", "", "a", ""), of("", ""), of("", "a"), of("/", long+"x"), full(api.MaxFiles), full(api.MaxFiles + 1), of("a", long), of("a", long[1:]+"y")}
	for i, a := range different {
		for k, b := range different {
			if got := revision.Same(a, copyOf(b)); got != (i == k) {
				t.Errorf("Same of %s and %s: %v", brief(a), brief(b), got)
			}
		}
	}
	if none := (api.Revision{Files: []api.File{}}); !revision.Same(none, api.Revision{}) || !revision.Same(api.Revision{}, none) {
		t.Error("no files are not the same as nil")
	}
}
