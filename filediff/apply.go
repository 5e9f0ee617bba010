package filediff

import (
	"maps"
	"slices"
	"strings"

	"testgate/api"
	"testgate/revision"
)

// Apply returns a revision after changes, which can have any order.
func Apply(a api.Revision, l []api.Change) (api.Revision, api.Errno) {
	if e := check(a, l); e != api.OK {
		return api.Revision{}, e
	}
	before, files := table(a), table(a)
	for _, path := range taken(l) {
		delete(files, path)
	}
	for _, c := range l {
		if puts(c) {
			files[c.Path] = bytesOf(c, before)
		}
	}
	r := ascending(files)
	if revision.Check(r) != api.OK {
		return api.Revision{}, api.ErrInvalid
	}
	return r, api.OK
}

// Invert returns the changes that lead back to a.
func Invert(a api.Revision, l []api.Change) ([]api.Change, api.Errno) {
	b, e := Apply(a, l)
	if e != api.OK {
		return nil, e
	}
	return Diff(b, a)
}

// check returns the first error of a revision and changes that is not one of the revision after them.
func check(a api.Revision, l []api.Change) api.Errno {
	if revision.Check(a) != api.OK || slices.ContainsFunc(l, isWrong) {
		return api.ErrInvalid
	}
	away, put := taken(l), placed(l)
	if hasTwice(away) || hasTwice(put) {
		return api.ErrTwice
	}
	files := table(a)
	for _, path := range away {
		if _, known := files[path]; !known {
			return api.ErrUnknown
		}
		delete(files, path)
	}
	for _, path := range put {
		if _, known := files[path]; known {
			return api.ErrExists
		}
	}
	return api.OK
}

// isWrong tells whether the kind of a change is none, or a field that it does not use is not empty.
func isWrong(c api.Change) bool {
	switch c.Kind {
	case api.FileAdded, api.FileChanged:
		return c.From != ""
	case api.FileRemoved:
		return c.From != "" || c.Bytes != ""
	case api.FileRenamed:
		return c.Bytes != ""
	}
	return true
}

// taken returns the paths of the files that changes take away.
func taken(l []api.Change) (paths []string) {
	for _, c := range l {
		switch c.Kind {
		case api.FileRemoved, api.FileChanged:
			paths = append(paths, c.Path)
		case api.FileRenamed:
			paths = append(paths, c.From)
		}
	}
	return paths
}

// placed returns the paths of the files that changes put.
func placed(l []api.Change) (paths []string) {
	for _, c := range l {
		if puts(c) {
			paths = append(paths, c.Path)
		}
	}
	return paths
}

func puts(c api.Change) bool { return c.Kind != api.FileRemoved }

func hasTwice(paths []string) bool {
	seen := map[string]bool{}
	for _, path := range paths {
		seen[path] = true
	}
	return len(seen) < len(paths)
}

// bytesOf returns the bytes of a file that a change puts. A renamed file has those of the old path before all changes, whatever is put there.
func bytesOf(c api.Change, before map[string]string) string {
	if c.Kind == api.FileRenamed {
		return before[c.From]
	}
	return c.Bytes
}

// ascending returns the revision of copies of these files.
func ascending(files map[string]string) (r api.Revision) {
	for _, path := range slices.Sorted(maps.Keys(files)) {
		r.Files = append(r.Files, api.File{Path: strings.Clone(path), Bytes: strings.Clone(files[path])})
	}
	return r
}
