package resolve_test

import (
	"slices"
	"testing"

	"testgate/api"
	"testgate/packages"
	"testgate/revision"
)

// lookedAt returns what a revision has for a key, so that look-ups can be compared.
func lookedAt(r api.Revision, k api.Key) (e api.Entity, bytes string, found bool) {
	switch k.Kind {
	case api.KeyFunc:
		e = packages.Find(r, api.DeclFunc, k.A, k.B)
	case api.KeyGen:
		e = packages.Find(r, api.DeclGen, "", k.A)
	case api.KeyData:
		bytes, found = revision.Find(r, k.A)
	}
	return e, bytes, found
}

// agree tells whether two revisions have the same for all keys.
func agree(a, b api.Revision, keys []api.Key) bool {
	for _, k := range keys {
		x, s, found := lookedAt(a, k)
		y, u, also := lookedAt(b, k)
		if x != y || s != u || found != also {
			return false
		}
	}
	return true
}

// TestKeysDecide compares pairs of random revisions: where the keys that were looked at find the same, Call and Data return the same.
func TestKeysDecide(t *testing.T) {
	d := dice(2)
	agreed, others := 0, 0
	for range 300 {
		a, b := revisionOf(d.drafts()...), revisionOf(d.drafts()...)
		for _, name := range names {
			f := fileOf(d.searched()...)
			x, y := call(t, a, f, name), call(t, b, f, name)
			if agree(a, b, x.keys) {
				agreed++
				if !x.same(y) {
					t.Errorf("Call of %s in %v: %v at %q, and %v at %q", name, f, x, a, y, b)
				}
			} else {
				others++
			}
		}
		for _, path := range slices.Concat(gens, dataPaths) {
			if x, y := data(t, a, path), data(t, b, path); agree(a, b, x.keys) {
				agreed++
				if !x.same(y) {
					t.Errorf("Data of %s: %v at %q, and %v at %q", path, x, a, y, b)
				}
			} else {
				others++
			}
		}
	}
	if agreed < 500 || others < 500 {
		t.Errorf("%d pairs agree, and %d do not", agreed, others)
	}
}

// TestAddedFunctions adds a function to each package of random revisions. What a name means changes exactly if its key was looked at, unless the name was ambiguous there (P9.3).
func TestAddedFunctions(t *testing.T) {
	d := dice(3)
	changed, kept := 0, 0
	for range 300 {
		l := d.drafts()
		in := d.searched()
		name := names[d.roll(len(names)-1)]
		before := wantCall(t, l, name, in...)
		for _, pkg := range append([]string{"none", "other"}, pkgs...) {
			more := append(slices.Clone(l), draft{path: "new.src", pkg: pkg, decls: []declared{{api.DeclFunc, name}}})
			after := wantCall(t, more, name, in...)
			k := api.Key{Kind: api.KeyFunc, A: pkg, B: name}
			if !slices.Contains(before.keys, k) {
				kept++
				if !after.same(before) {
					t.Errorf("Call of %s in %v at %v: %v, and %v with a function in %s, which was not looked at", name, in, l, before, after, pkg)
				}
				continue
			}
			changed++
			if ambiguous := before.e == api.ErrAmbiguous && before.keys[len(before.keys)-1] == k; after.same(before) != ambiguous {
				t.Errorf("Call of %s in %v at %v: %v, and %v with a function in %s", name, in, l, before, after, pkg)
			}
		}
	}
	if changed < 300 || kept < 300 {
		t.Errorf("%d keys were looked at, and %d were not", changed, kept)
	}
}

// TestFileHidesGen adds a file with each path that is looked up, and removes it again (P9.3).
func TestFileHidesGen(t *testing.T) {
	d := dice(4)
	hidden := map[int]int{}
	for range 200 {
		l := d.drafts()
		r := revisionOf(l...)
		for _, path := range gens {
			before := wantData(t, l, path)
			if before.kind == 1 || revision.IsSource(path) {
				continue
			}
			with, _ := revision.Put(r, path, "package p; gen \""+path+"\" = 1;")
			if a := data(t, with, path); !a.same(answer{kind: 1, keys: []api.Key{{Kind: api.KeyData, A: path}}}) {
				t.Errorf("Data of %s at %q: %v", path, with, a)
			}
			without, _ := revision.Remove(with, path)
			if a := data(t, without, path); !a.same(before) {
				t.Errorf("Data of %s at %q: %v instead of %v", path, without, a, before)
			}
			hidden[before.kind]++
		}
	}
	for _, kind := range []int{0, 2, 3} {
		if hidden[kind] < 30 {
			t.Errorf("only %d times a file hid the kind %d", hidden[kind], kind)
		}
	}
}

// TestAddedGens adds a gen to random revisions. What a path means changes exactly if its KeyGen was looked at, unless the path was ambiguous.
func TestAddedGens(t *testing.T) {
	d := dice(5)
	for range 200 {
		l := d.drafts()
		for _, path := range slices.Concat(gens, dataPaths) {
			before := wantData(t, l, path)
			added := d.pick(gens)
			after := wantData(t, append(slices.Clone(l), draft{path: "new.src", pkg: d.pick(pkgs), decls: []declared{{api.DeclGen, added}}}), path)
			looked := slices.Contains(before.keys, api.Key{Kind: api.KeyGen, A: added})
			if after.same(before) == (looked && before.kind != 3) {
				t.Errorf("Data of %s at %v: %v, and %v with a gen %s", path, l, before, after, added)
			}
		}
	}
}
