package fact

import (
	"slices"
	"strconv"
	"strings"

	"testgate/api"
	"testgate/evaluate"
	"testgate/mention"
	"testgate/packages"
	"testgate/revision"
	"testgate/wire"
)

// What a content begins with: whether there is none, one or more of what its key names.
const (
	none = "-"
	one  = "="
	more = "?"
)

// view is how keys see a revision and an environment.
type view struct {
	revision api.Revision
	env      api.Environment
	kinds    map[int]func(v *view, k api.Key) (text string, count int)
	source   func(path string) api.Source
	entity   func(k api.Key) api.Entity
	files    func(pkg string) []api.File
}

// newView returns the view of some keys. Parsing files takes far longer than all else, so that a few keys look only at the files they need, and many at all files at once.
func newView(r api.Revision, env api.Environment, l []api.Key) *view {
	v := &view{revision: r, env: env, kinds: kindsOfKeys(), source: keptSources(r)}
	if len(l) > len(r.Files) || slices.ContainsFunc(l, func(k api.Key) bool { return k.Kind == api.KeyTree }) {
		v.entity, v.files = keptEntities(r), keptFiles(r, v.source)
	} else {
		v.entity = func(k api.Key) api.Entity { return find(r, k) }
		v.files = func(pkg string) []api.File { return packages.Files(r, pkg) }
	}
	return v
}

// kindsOfKeys returns how many there are of what a key of each kind names, and the text of the content if it is one.
func kindsOfKeys() map[int]func(v *view, k api.Key) (text string, count int) {
	return map[int]func(v *view, k api.Key) (text string, count int){
		api.KeyFunc:  (*view).declaration,
		api.KeyTest:  (*view).declaration,
		api.KeyGen:   (*view).declaration,
		api.KeyData:  (*view).data,
		api.KeyEnv:   (*view).variable,
		api.KeyFiles: (*view).filesOf,
		api.KeyTree:  (*view).treeOf,
	}
}

// content returns the content of a key.
func (v *view) content(k api.Key) string {
	switch text, count := v.kinds[k.Kind](v, k); count {
	case 0:
		return none
	case 1:
		return one + text
	default:
		return more
	}
}

func (v *view) declaration(k api.Key) (text string, count int) {
	e := v.entity(k)
	if e.Count == 1 {
		text, _ = mention.Text(v.source(e.Place), e.Index)
	}
	return text, e.Count
}

func (v *view) data(k api.Key) (text string, count int) {
	text, found := revision.Find(v.revision, k.A)
	return text, number(found)
}

func (v *view) variable(k api.Key) (text string, count int) {
	value, found := evaluate.Variable(v.env, k.A)
	return strconv.Itoa(value), number(found)
}

func (v *view) filesOf(k api.Key) (text string, count int) {
	var l []string
	for _, file := range v.files(k.A) {
		l = append(l, file.Path, file.Bytes)
	}
	return joined(l), 1
}

func (v *view) treeOf(k api.Key) (text string, count int) {
	var l []string
	for _, pkg := range v.tree(k.A) {
		l = append(l, pkg, v.content(api.Key{Kind: api.KeyFiles, A: pkg}))
	}
	return joined(l), 1
}

// tree returns a package and all that files of packages in the tree import, ascending.
func (v *view) tree(pkg string) []string {
	l := []string{pkg}
	for i := 0; i < len(l); i++ { // l grows
		for _, file := range v.files(l[i]) {
			for _, name := range v.source(file.Path).Imports {
				if !slices.Contains(l, name) {
					l = append(l, name)
				}
			}
		}
	}
	slices.Sort(l)
	return l
}

// joined returns strings one after the other, as layer 3 writes them.
func joined(l []string) string {
	var b strings.Builder
	for _, s := range l {
		b.Write(wire.PutText(nil, s))
	}
	return b.String()
}

// number returns how many there are of what was found or not.
func number(found bool) int {
	if found {
		return 1
	}
	return 0
}
