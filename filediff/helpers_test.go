package filediff_test

import (
	"fmt"
	"regexp"
	"slices"
	"strings"
	"unsafe"

	"testgate/api"
)

// of returns a revision with files in a text like "a=1 b c=2": b has no bytes.
func of(s string) (r api.Revision) {
	for _, word := range strings.Fields(s) {
		path, bytes, _ := strings.Cut(word, "=")
		r.Files = append(r.Files, api.File{Path: path, Bytes: bytes})
	}
	return r
}

// changes returns changes in a text like "+a=1 -b *c=2 d<e": a is added, b removed, c changed, and e becomes d.
func changes(s string) (l []api.Change) {
	for _, word := range strings.Fields(s) {
		path, bytes, _ := strings.Cut(word, "=")
		switch path[0] {
		case '+':
			l = append(l, api.Change{Kind: api.FileAdded, Path: path[1:], Bytes: bytes})
		case '-':
			l = append(l, api.Change{Kind: api.FileRemoved, Path: path[1:]})
		case '*':
			l = append(l, api.Change{Kind: api.FileChanged, Path: path[1:], Bytes: bytes})
		default:
			to, from, _ := strings.Cut(path, "<")
			l = append(l, api.Change{Kind: api.FileRenamed, Path: to, From: from})
		}
	}
	return l
}

// full returns a revision of n files with different bytes.
func full(n int) (r api.Revision) {
	for i := range n {
		r.Files = append(r.Files, api.File{Path: fmt.Sprintf("f%03d", i), Bytes: fmt.Sprint("bytes ", i)})
	}
	return r
}

// Bytes and paths at the limits.
var (
	long     = strings.Repeat("x", api.MaxBytes)
	part     = strings.Repeat("n", api.MaxName)
	longPath = part + "/" + part + "/" + part + "/nnnnn" // of MaxPath bytes
)

// equal compares revisions; nil and no files are the same.
func equal(a, b api.Revision) bool { return slices.Equal(a.Files, b.Files) }

// copyOf and copyOfAll return values that share no memory with their arguments.
func copyOf(r api.Revision) (c api.Revision) {
	for _, f := range r.Files {
		c.Files = append(c.Files, api.File{Path: strings.Clone(f.Path), Bytes: strings.Clone(f.Bytes)})
	}
	return c
}

func copyOfAll(l []api.Change) (c []api.Change) {
	for _, x := range l {
		c = append(c, api.Change{Kind: x.Kind, Path: strings.Clone(x.Path), From: strings.Clone(x.From), Bytes: strings.Clone(x.Bytes)})
	}
	return c
}

// brief returns a text of a value for messages.
func brief(x any) string { return fmt.Sprintf("%.300s", fmt.Sprintf("%.40q", x)) }

var pathForm = regexp.MustCompile(`^[a-z0-9_.]{1,24}(/[a-z0-9_.]{1,24}){0,7}$`)

// isRevision tells whether revision.Check has to accept files.
func isRevision(r api.Revision) bool {
	for i, f := range r.Files {
		if !pathForm.MatchString(f.Path) || len(f.Path) > 80 || len(f.Bytes) > 16384 || i > 0 && r.Files[i-1].Path >= f.Path {
			return false
		}
	}
	return len(r.Files) <= 64
}

// find returns the bytes of a file.
func find(r api.Revision, path string) (string, bool) {
	for _, f := range r.Files {
		if f.Path == path {
			return f.Bytes, true
		}
	}
	return "", false
}

// wantDiff returns what Diff has to return: each path that is in a or b, in order, has at most one change.
func wantDiff(a, b api.Revision) (l []api.Change, e api.Errno) {
	if !isRevision(a) || !isRevision(b) {
		return nil, api.ErrInvalid
	}
	from, to := renames(a, b)
	var paths []string
	for _, f := range slices.Concat(a.Files, b.Files) {
		paths = append(paths, f.Path)
	}
	slices.Sort(paths)
	for _, path := range slices.Compact(paths) {
		old, before := find(a, path)
		now, after := find(b, path)
		switch {
		case before && after && old != now:
			l = append(l, api.Change{Kind: 3, Path: path, Bytes: now})
		case !before && from[path] != "":
			l = append(l, api.Change{Kind: 4, Path: path, From: from[path]})
		case !before:
			l = append(l, api.Change{Kind: 1, Path: path, Bytes: now})
		case !after && to[path] == "":
			l = append(l, api.Change{Kind: 2, Path: path})
		}
	}
	return l, api.OK
}

// renames returns the old paths of renamed files by their new ones, and the new ones by the old ones.
func renames(a, b api.Revision) (from, to map[string]string) {
	from, to = map[string]string{}, map[string]string{}
	for _, added := range b.Files {
		for _, removed := range a.Files {
			_, stays := find(b, removed.Path)
			_, was := find(a, added.Path)
			if !stays && !was && removed.Bytes == added.Bytes && from[added.Path] == "" && to[removed.Path] == "" {
				from[added.Path], to[removed.Path] = removed.Path, added.Path
			}
		}
	}
	return from, to
}

// takes and puts return the path that a change takes away, and that it puts, if it does.
func takes(c api.Change) []string {
	return [][]string{1: nil, 2: {c.Path}, 3: {c.Path}, 4: {c.From}}[c.Kind]
}

func puts(c api.Change) []string {
	return [][]string{1: {c.Path}, 2: nil, 3: {c.Path}, 4: {c.Path}}[c.Kind]
}

// wantApply returns what Apply has to return.
func wantApply(a api.Revision, l []api.Change) (r api.Revision, e api.Errno) {
	if !isRevision(a) {
		return r, api.ErrInvalid
	}
	for _, c := range l {
		if c.Kind < 1 || c.Kind > 4 || c.Kind != 4 && c.From != "" || c.Kind%2 == 0 && c.Bytes != "" {
			return r, api.ErrInvalid
		}
	}
	for i, c := range l {
		for _, d := range l[:i] {
			if len(takes(c)) > 0 && slices.Equal(takes(c), takes(d)) || len(puts(c)) > 0 && slices.Equal(puts(c), puts(d)) {
				return r, api.ErrTwice
			}
		}
	}
	var away []string
	for _, c := range l {
		away = append(away, takes(c)...)
	}
	for _, path := range away {
		if _, known := find(a, path); !known {
			return r, api.ErrUnknown
		}
	}
	for _, f := range a.Files {
		if !slices.Contains(away, f.Path) {
			r.Files = append(r.Files, f)
		}
	}
	stays := slices.Clone(r.Files)
	for _, c := range l {
		for _, path := range puts(c) {
			if _, known := find(api.Revision{Files: stays}, path); known {
				return api.Revision{}, api.ErrExists
			}
			f := api.File{Path: path, Bytes: c.Bytes}
			if c.Kind == 4 {
				f.Bytes, _ = find(a, c.From)
			}
			r.Files = append(r.Files, f)
		}
	}
	slices.SortFunc(r.Files, func(x, y api.File) int { return strings.Compare(x.Path, y.Path) })
	if !isRevision(r) {
		return api.Revision{}, api.ErrInvalid
	}
	return r, api.OK
}

// stringsOf returns the strings of revisions and of changes.
func stringsOf(r api.Revision) (l []string) {
	for _, f := range r.Files {
		l = append(l, f.Path, f.Bytes)
	}
	return l
}

func stringsOfAll(changes []api.Change) (l []string) {
	for _, c := range changes {
		l = append(l, c.Path, c.From, c.Bytes)
	}
	return l
}

// share tells whether strings of two lists have memory in common. Strings of one byte are never new in Go.
func share(a, b []string) bool {
	for _, x := range a {
		for _, y := range b {
			if len(x) > 1 && len(y) > 1 && overlap(x, y) {
				return true
			}
		}
	}
	return false
}

// shareAmong tells whether two strings of a list have memory in common.
func shareAmong(l []string) bool {
	for i := range l {
		if share(l[i:i+1], l[i+1:]) {
			return true
		}
	}
	return false
}

func overlap(a, b string) bool {
	x, y := uintptr(unsafe.Pointer(unsafe.StringData(a))), uintptr(unsafe.Pointer(unsafe.StringData(b)))
	return x < y+uintptr(len(b)) && y < x+uintptr(len(a))
}

// dice gives numbers that look random and are the same in every run.
type dice uint64

// roll returns a number from 0 to n - 1.
func (d *dice) roll(n int) int {
	*d = *d*6364136223846793005 + 1442695040888963407
	return int(uint64(*d)>>33) % n
}

// pick returns one of the words of a text.
func (d *dice) pick(words string) string {
	l := strings.Fields(words)
	return l[d.roll(len(l))]
}

// revision returns a revision with some of so many paths and a few kinds of bytes.
func (d *dice) revision(paths, kinds int) (r api.Revision) {
	for i := range paths {
		if d.roll(2) == 0 && len(r.Files) < api.MaxFiles {
			r.Files = append(r.Files, api.File{Path: fmt.Sprintf("f%02d", i), Bytes: fmt.Sprint("bytes ", d.roll(kinds))})
		}
	}
	return r
}

// shuffle changes the order of a list.
func shuffle[T any](d *dice, l []T) {
	for i := range l {
		j := d.roll(i + 1)
		l[i], l[j] = l[j], l[i]
	}
}
