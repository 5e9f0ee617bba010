package revision_test

import (
	"strings"
	"testing"

	"testgate/api"
	"testgate/revision"
)

func TestCheck(t *testing.T) {
	longer := long + "x"
	for _, c := range []struct {
		name string
		r    api.Revision
		e    api.Errno
	}{
		{"nil", api.Revision{}, api.OK}, {"no files", api.Revision{Files: []api.File{}}, api.OK}, {"a file", of("a", "1"), api.OK}, {"three", of("a", "", "a/b", "\x00\xff\n", "b.src", "no source"), api.OK},
		{"bytewise", of(".", "", "..", "", ".a", "", "0", "", "9", "", "_", "", "a", "", "a.b", "", "a/b", "", "a0", "", "a_", "", "aa", ""), api.OK},
		{"the longest path", of(longPath, ""), api.OK}, {"the longest bytes", of("a", long), api.OK}, {"the longest bytes twice", of("a", long, "b", long), api.OK}, {"the greatest number", full(api.MaxFiles), api.OK},
		{"one file more", full(api.MaxFiles + 1), api.ErrLimit}, {"one file more, all wrong", with(full(api.MaxFiles), "/", longer), api.ErrLimit}, {"too many, and the first one wrong", api.Revision{Files: make([]api.File, api.MaxFiles+1)}, api.ErrLimit}, {"far too many", api.Revision{Files: make([]api.File, 100000)}, api.ErrLimit},
		{"no path", of("", ""), api.ErrText}, {"a capital", of("A", ""), api.ErrText}, {"a part that is missing", of("a//b", ""), api.ErrText}, {"a path that is too long", of(longPath+"f", ""), api.ErrText}, {"a wrong path at the end", of("a", "", "b", "", "c-d", ""), api.ErrText}, {"the same wrong path twice", of("/", "", "/", ""), api.ErrText}, {"no path behind a file", of("a", "", "", ""), api.ErrText}, {"no path twice", of("", "", "", ""), api.ErrText},
		{"as many files as possible, all without a path", api.Revision{Files: make([]api.File, api.MaxFiles)}, api.ErrText}, {"the last of the greatest number", with(full(api.MaxFiles-1), "z ", ""), api.ErrText},
		{"twice", of("a", "", "a", ""), api.ErrTwice}, {"twice with other bytes", of("a", "1", "a", "2"), api.ErrTwice}, {"twice at the end", of("a", "", "b", "", "b", ""), api.ErrTwice}, {"twice, but not one after the other", of("a", "", "b", "", "a", ""), api.ErrText},
		{"descending", of("b", "", "a", ""), api.ErrText}, {"descending at the end", of("a", "", "c", "", "b", ""), api.ErrText}, {"a beginning behind a path", of("ab", "", "a", ""), api.ErrText}, {"a digit behind a slash", of("a0", "", "a/b", ""), api.ErrText},
		{"too many bytes", of("a", longer), api.ErrLimit}, {"too many bytes at the end", of("a", "", "b", longer), api.ErrLimit}, {"far too many bytes", of("a", strings.Repeat("x", 1<<20)), api.ErrLimit},
		{"bytes before a path", of("a", longer, "/", ""), api.ErrLimit}, {"a path before bytes", of("/", "", "a", longer), api.ErrText}, {"a path and bytes", of("/", longer), api.ErrText},
		{"bytes before twice", of("a", longer, "a", ""), api.ErrLimit}, {"twice and bytes", of("a", "", "a", longer), api.ErrTwice}, {"twice before bytes", of("a", "", "a", "", "b", longer), api.ErrTwice},
		{"bytes before descending", of("b", longer, "a", ""), api.ErrLimit}, {"descending and bytes", of("b", "", "a", longer), api.ErrText}, {"twice before a path", of("a", "", "a", "", "/", ""), api.ErrTwice}, {"a path before twice", of("/", "", "a", "", "a", ""), api.ErrText},
	} {
		if e := revision.Check(c.r); e != c.e || e != checkOf(c.r) {
			t.Errorf("%s: error %d instead of %d", c.name, e, c.e)
		}
		compareErrors(t, c.r)
	}
}

// compareErrors checks that all functions return the error of Check first, whatever their other arguments are.
func compareErrors(t *testing.T, r api.Revision) {
	t.Helper()
	want := checkOf(r)
	before := copyOf(r)
	if e := revision.Check(r); e != want {
		t.Errorf("Check of %s: error %d instead of %d", brief(r), e, want)
	}
	if want == api.OK {
		return
	}
	for _, path := range []string{"a", "b", "a/b", "f00", "zz", "/", "", longPath + "f"} {
		s, ok := revision.Find(r, path)
		removed, e := revision.Remove(r, path)
		if s != "" || ok || e != want || len(removed.Files) > 0 {
			t.Errorf("%s: Find of %q is %.9q, %v, Remove has %d files, error %d instead of %d", brief(r), path, s, ok, len(removed.Files), e, want)
		}
		for _, other := range []string{"", "b", "q", "/", long + "x"} {
			put, e := revision.Put(r, path, other)
			moved, e2 := revision.Move(r, path, other)
			if e != want || e2 != want || len(put.Files)+len(moved.Files) > 0 {
				t.Errorf("%s: Put of %q has %d files, error %d, Move to %.9q %d files, error %d, instead of %d", brief(r), path, len(put.Files), e, other, len(moved.Files), e2, want)
			}
		}
	}
	if l, e := revision.Encode(r); len(l) > 0 || e != want {
		t.Errorf("%s: Encode has %d bytes, error %d instead of %d", brief(r), len(l), e, want)
	}
	if !equal(r, before) {
		t.Errorf("%s was changed", brief(before))
	}
}

// TestCheckOfAllLists compares Check on all lists of up to four of some files, good and bad ones.
func TestCheckOfAllLists(t *testing.T) {
	some := of("a", "1", "b", "", "a/b", "x", "b", long+"x", "/", "", "A", long+"x", "", "")
	var visit func(r api.Revision)
	visit = func(r api.Revision) {
		compareErrors(t, r)
		if len(r.Files) == 4 {
			return
		}
		for _, f := range some.Files {
			visit(with(r, f.Path, f.Bytes))
		}
	}
	visit(api.Revision{})
}

// TestCheckOfEveryByte has paths with every byte.
func TestCheckOfEveryByte(t *testing.T) {
	for n := range 256 {
		for _, path := range []string{"%", "b%", "%b", "b/%", "%/b"} {
			path = strings.ReplaceAll(path, "%", string([]byte{byte(n)}))
			compareErrors(t, of("a", "", path, ""))
			compareErrors(t, of(path, "", "c", ""))
		}
	}
}

// TestCheckOfSwappedFiles swaps every two files of the greatest number of files, and repeats each of them.
func TestCheckOfSwappedFiles(t *testing.T) {
	for i := range api.MaxFiles {
		for k := range i {
			r := full(api.MaxFiles)
			r.Files[i], r.Files[k] = r.Files[k], r.Files[i]
			if e := revision.Check(r); e != api.ErrText {
				t.Errorf("the files %d and %d are swapped: error %d", k, i, e)
			}
		}
		if i > 0 {
			r := full(api.MaxFiles)
			r.Files[i].Path = r.Files[i-1].Path
			if e := revision.Check(r); e != api.ErrTwice {
				t.Errorf("the file %d has the path of the one before: error %d", i, e)
			}
		}
	}
}
