package revision_test

import (
	"fmt"
	"maps"
	"regexp"
	"slices"
	"strings"
	"testing"
	"unsafe"

	"testgate/api"
	"testgate/revision"
)

var (
	long     = strings.Repeat("x", api.MaxBytes) // the longest bytes of a file
	part     = strings.Repeat("p", api.MaxName)
	longPath = part + "/" + part + "/" + part + "/abcde" // the longest path

	pathPattern = regexp.MustCompile(`^[a-z0-9_.]{1,24}(?:/[a-z0-9_.]{1,24}){0,7}$`)
)

// isPath tells whether s is a path.
func isPath(s string) bool { return pathPattern.MatchString(s) && len(s) <= 80 }

// of returns a revision of paths and bytes that take turns.
func of(l ...string) api.Revision {
	var r api.Revision
	for i := 0; i < len(l); i += 2 {
		r.Files = append(r.Files, api.File{Path: l[i], Bytes: l[i+1]})
	}
	return r
}

// full returns a revision of n files, whose paths are f00, f01, and so on.
func full(n int) api.Revision {
	var r api.Revision
	for i := range n {
		r.Files = append(r.Files, api.File{Path: fmt.Sprintf("f%02d", i), Bytes: fmt.Sprint(i)})
	}
	return r
}

// with returns the files of a revision, and one behind them.
func with(r api.Revision, path, bytes string) api.Revision {
	return api.Revision{Files: append(slices.Clone(r.Files), api.File{Path: path, Bytes: bytes})}
}

// copyOf returns a revision that shares no memory with r.
func copyOf(r api.Revision) (out api.Revision) {
	for _, f := range r.Files {
		out.Files = append(out.Files, api.File{Path: strings.Clone(f.Path), Bytes: strings.Clone(f.Bytes)})
	}
	return out
}

// equal compares revisions; nil and no files are the same.
func equal(a, b api.Revision) bool { return slices.Equal(a.Files, b.Files) }

// fromMap returns the revision of files in a map.
func fromMap(m map[string]string) (r api.Revision) {
	for _, path := range slices.Sorted(maps.Keys(m)) {
		r.Files = append(r.Files, api.File{Path: path, Bytes: m[path]})
	}
	return r
}

// brief returns a text of a revision for messages.
func brief(r api.Revision) string {
	var b strings.Builder
	fmt.Fprintf(&b, "%d files:", len(r.Files))
	for _, f := range r.Files[:min(len(r.Files), 6)] {
		fmt.Fprintf(&b, " %.20q %.8q (%d)", f.Path, f.Bytes, len(f.Bytes))
	}
	return b.String()
}

// checkOf returns what Check has to return.
func checkOf(r api.Revision) api.Errno {
	if len(r.Files) > 64 {
		return api.ErrLimit
	}
	for i, f := range r.Files {
		if !isPath(f.Path) {
			return api.ErrText
		}
		if i > 0 && r.Files[i-1].Path == f.Path {
			return api.ErrTwice
		}
		if i > 0 && strings.Compare(r.Files[i-1].Path, f.Path) > 0 {
			return api.ErrText
		}
		if len(f.Bytes) > 16384 {
			return api.ErrLimit
		}
	}
	return api.OK
}

// dice gives numbers that look random and are the same in every run.
type dice uint64

// roll returns a number from 0 to n - 1.
func (d *dice) roll(n int) int {
	*d = *d*6364136223846793005 + 1442695040888963407
	return int(uint64(*d)>>33) % n
}

// pick returns one of some strings.
func (d *dice) pick(l ...string) string { return l[d.roll(len(l))] }

// revision returns a revision of files with some of these paths.
func (d *dice) revision(paths ...string) api.Revision {
	m := map[string]string{}
	for _, path := range paths {
		if d.roll(3) > 0 {
			m[path] = d.pick("", "0", "\xff\x00", "test t = 1;\n", long, strings.Repeat("y", d.roll(300)))
		}
	}
	return fromMap(m)
}

// shares tells whether two strings have memory in common.
func shares(a, b string) bool {
	if a == "" || b == "" {
		return false
	}
	x, y := uintptr(unsafe.Pointer(unsafe.StringData(a))), uintptr(unsafe.Pointer(unsafe.StringData(b)))
	return x < y+uintptr(len(b)) && y < x+uintptr(len(a))
}

// separate checks that a revision shares no memory with strings and other revisions.
func separate(t *testing.T, name string, r api.Revision, others []api.Revision, texts ...string) {
	t.Helper()
	for _, other := range others {
		for _, f := range other.Files {
			texts = append(texts, f.Path, f.Bytes)
		}
	}
	for _, f := range r.Files {
		for _, s := range texts {
			if shares(f.Path, s) || shares(f.Bytes, s) {
				t.Errorf("%s: the file %q shares memory with %.20q", name, f.Path, s)
			}
		}
	}
	before := make([]api.Revision, len(others))
	for i, other := range others {
		before[i] = copyOf(other)
	}
	clear(r.Files[:cap(r.Files)])
	for i, other := range others {
		if !revision.Same(other, before[i]) {
			t.Errorf("%s: the files share memory with those of an argument", name)
		}
	}
}
