package packages

import (
	"cmp"
	"maps"
	"slices"
	"strings"

	"testgate/api"
	"testgate/revision"
)

// identity is what all declarations of an entity have in common.
type identity struct {
	kind      int
	pkg, name string // pkg is empty for gens, since those of all packages count
}

func identify(kind int, pkg, name string) identity {
	if kind == api.DeclGen {
		pkg = ""
	}
	return identity{kind, pkg, name}
}

// Find returns the entity of a kind with a name in a package.
func Find(r api.Revision, kind int, pkg, name string) api.Entity {
	if revision.Check(r) != api.OK {
		return api.Entity{}
	}
	id := identify(kind, pkg, name)
	if e, found := count(r, id.pkg, id.name)[id]; found {
		return e
	}
	return api.Entity{Package: strings.Clone(id.pkg), Name: strings.Clone(id.name), Kind: id.kind}
}

// Entities returns all entities that are declared: functions and tests by package, and then gens.
func Entities(r api.Revision) []api.Entity {
	counted := count(r)
	var l []api.Entity
	for _, id := range slices.SortedFunc(maps.Keys(counted), compare) {
		l = append(l, counted[id])
	}
	return l
}

// Tests returns the names of the tests that are declared once.
func Tests(r api.Revision) []api.Name {
	var l []api.Name
	for _, e := range Entities(r) {
		if e.Kind == api.DeclTest && e.Count == 1 {
			l = append(l, api.Name{Package: e.Package, Test: e.Name})
		}
	}
	return l
}

// count returns the entities that are declared in files with these words. No file declares one twice, so that each declaration is one more file.
func count(r api.Revision, words ...string) map[identity]api.Entity {
	counted := map[identity]api.Entity{}
	for file, f := range sources(r, words...) {
		for i, d := range f.Decls {
			id := identify(d.Kind, f.Package, d.Name)
			e, found := counted[id]
			if !found {
				e = api.Entity{Package: strings.Clone(f.Package), Name: d.Name, Kind: d.Kind, Place: strings.Clone(file.Path), Index: i}
			}
			e.Count++
			counted[id] = e
		}
	}
	return counted
}

// compare orders identities: gens come last.
func compare(a, b identity) int {
	if (a.kind == api.DeclGen) != (b.kind == api.DeclGen) {
		return cmp.Compare(a.kind, b.kind)
	}
	return cmp.Or(strings.Compare(a.pkg, b.pkg), cmp.Compare(a.kind, b.kind), strings.Compare(a.name, b.name))
}
