package fact

import (
	"testgate/api"
	"testgate/packages"
)

// find returns the entity of a key of a declaration.
func find(r api.Revision, k api.Key) api.Entity {
	switch k.Kind {
	case api.KeyFunc:
		return packages.Find(r, api.DeclFunc, k.A, k.B)
	case api.KeyTest:
		return packages.Find(r, api.DeclTest, k.A, k.B)
	}
	return packages.Find(r, api.DeclGen, "", k.A)
}

// keyOf returns the key of an entity.
func keyOf(e api.Entity) api.Key {
	switch e.Kind {
	case api.DeclFunc:
		return api.Key{Kind: api.KeyFunc, A: e.Package, B: e.Name}
	case api.DeclTest:
		return api.Key{Kind: api.KeyTest, A: e.Package, B: e.Name}
	}
	return api.Key{Kind: api.KeyGen, A: e.Name}
}

// keptSources returns a function that parses a file once, however often it is asked for its source. The source of a file without one is empty.
func keptSources(r api.Revision) func(path string) api.Source {
	kept := map[string]api.Source{}
	return func(path string) api.Source {
		if _, known := kept[path]; !known {
			kept[path], _ = packages.Source(r, path)
		}
		return kept[path]
	}
}

// keptEntities returns a function that finds entities like find, but looks at all of them once. An entity without a Count is empty.
func keptEntities(r api.Revision) func(k api.Key) api.Entity {
	var kept map[api.Key]api.Entity
	return func(k api.Key) api.Entity {
		if kept == nil {
			kept = map[api.Key]api.Entity{}
			for _, e := range packages.Entities(r) {
				kept[keyOf(e)] = e
			}
		}
		return kept[k]
	}
}

// keptFiles returns a function that finds the files of a package like packages.Files, but looks at all of them once.
func keptFiles(r api.Revision, source func(path string) api.Source) func(pkg string) []api.File {
	var kept map[string][]api.File
	return func(pkg string) []api.File {
		if kept == nil {
			kept = map[string][]api.File{}
			for _, file := range r.Files {
				in := source(file.Path).Package // empty for a file without a source
				kept[in] = append(kept[in], file)
			}
		}
		return kept[pkg]
	}
}
