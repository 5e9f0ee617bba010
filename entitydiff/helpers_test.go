package entitydiff_test

import (
	"cmp"
	"fmt"
	"slices"
	"strings"
	"testing"
	"unsafe"

	"testgate/api"
	"testgate/entitydiff"
	"testgate/fact"
)

// of returns a revision of paths and bytes that take turns, in order.
func of(l ...string) (r api.Revision) {
	for i := 0; i < len(l); i += 2 {
		r.Files = append(r.Files, api.File{Path: l[i], Bytes: l[i+1]})
	}
	return r
}

// put returns a revision with new bytes of a file.
func put(r api.Revision, path, bytes string) api.Revision {
	files := append(without(r, path).Files, api.File{Path: path, Bytes: bytes})
	slices.SortFunc(files, func(a, b api.File) int { return strings.Compare(a.Path, b.Path) })
	return api.Revision{Files: files}
}

// without returns a revision without a file.
func without(r api.Revision, path string) api.Revision {
	return api.Revision{Files: slices.DeleteFunc(slices.Clone(r.Files), func(f api.File) bool { return f.Path == path })}
}

// variables returns an environment of variables in a text like "a=1 b=2".
func variables(s string) (env api.Environment) {
	for word := range strings.FieldsSeq(s) {
		var v api.Variable
		if name, value, ok := strings.Cut(word, "="); ok {
			v.Name = name
			fmt.Sscan(value, &v.Value)
		}
		env.Variables = append(env.Variables, v)
	}
	return env
}

// kinds has the words of the kinds of keys.
var kinds = []string{api.KeyFunc: "func", api.KeyTest: "test", api.KeyGen: "gen", api.KeyData: "data", api.KeyEnv: "env", api.KeyFiles: "files", api.KeyTree: "tree"}

// words returns texts of keys like "func p f".
func words(keys []api.Key) (l []string) {
	for _, k := range keys {
		l = append(l, strings.TrimSpace(kinds[k.Kind]+" "+k.A+" "+k.B))
	}
	return l
}

// listed returns the parts of a text, which have commas between them.
func listed(s string) (l []string) {
	for part := range strings.SplitSeq(s, ",") {
		if part = strings.TrimSpace(part); part != "" {
			l = append(l, part)
		}
	}
	return l
}

// point is a revision with an environment.
type point struct {
	r   api.Revision
	env api.Environment
}

// copied returns a point that shares no memory with p.
func (p point) copied() (c point) {
	for _, f := range p.r.Files {
		c.r.Files = append(c.r.Files, api.File{Path: strings.Clone(f.Path), Bytes: strings.Clone(f.Bytes)})
	}
	for _, v := range p.env.Variables {
		c.env.Variables = append(c.env.Variables, api.Variable{Name: strings.Clone(v.Name), Value: v.Value})
	}
	return c
}

// same compares points; nil and empty lists are the same.
func (p point) same(q point) bool {
	return slices.Equal(p.r.Files, q.r.Files) && slices.Equal(p.env.Variables, q.env.Variables)
}

// brief returns a text of a value for messages.
func brief(x any) string { return fmt.Sprintf("%.900s", fmt.Sprintf("%.300q", x)) }

// differing returns the keys of a list, ascending, whose contents at a and at b differ.
func differing(t *testing.T, a, b point, keys []api.Key) (l []api.Key) {
	t.Helper()
	before, e := fact.Contents(a.r, a.env, keys)
	after, other := fact.Contents(b.r, b.env, keys)
	if e != api.OK || other != api.OK {
		t.Fatalf("Contents of %v at %s and at %s: errors %d and %d", words(keys), brief(a), brief(b), e, other)
	}
	for i, k := range keys {
		if before[i] != after[i] {
			l = append(l, k)
		}
	}
	slices.SortFunc(l, func(x, y api.Key) int {
		return cmp.Or(cmp.Compare(x.Kind, y.Kind), strings.Compare(x.A, y.A), strings.Compare(x.B, y.B))
	})
	return l
}

// diff returns what All returns for two points that are well-formed. It checks that the other functions return the parts of it, that the order of the sides does not matter, and that no argument is changed (P16.1, P16.2, R3).
func diff(t *testing.T, a, b point) []api.Key {
	t.Helper()
	x, y := a.copied(), b.copied()
	all, e := entitydiff.All(a.r, a.env, b.r, b.env)
	if e != api.OK {
		t.Fatalf("All of %s and %s: error %d", brief(a), brief(b), e)
	}
	revisions, env, names := parts(all)
	if l, e := entitydiff.Changed(a.r, b.r); !slices.Equal(l, revisions) || e != api.OK {
		t.Errorf("Changed of %s and %s: %v, error %d instead of %v", brief(a.r), brief(b.r), words(l), e, words(revisions))
	}
	if l, e := entitydiff.Environments(a.env, b.env); !slices.Equal(l, env) || e != api.OK {
		t.Errorf("Environments of %v and %v: %v, error %d instead of %v", a.env, b.env, words(l), e, words(env))
	}
	if l, e := entitydiff.Packages(a.r, b.r); !slices.Equal(l, names) || e != api.OK {
		t.Errorf("Packages of %s and %s: %q, error %d instead of %q", brief(a.r), brief(b.r), l, e, names)
	}
	if l, e := entitydiff.All(b.r, b.env, a.r, a.env); !slices.Equal(l, all) || e != api.OK {
		t.Errorf("All of %s and %s: %v, but %v, error %d the other way", brief(a), brief(b), words(all), words(l), e)
	}
	if !a.same(x) || !b.same(y) {
		t.Errorf("%s or %s was changed", brief(x), brief(y))
	}
	return all
}

// parts returns the keys of a list that are none of variables, those that are, and the packages of KeyFiles.
func parts(l []api.Key) (revisions, env []api.Key, names []string) {
	for _, k := range l {
		switch k.Kind {
		case api.KeyEnv:
			env = append(env, k)
		case api.KeyFiles:
			names = append(names, k.A)
			fallthrough
		default:
			revisions = append(revisions, k)
		}
	}
	return revisions, env, names
}

// overlap tells whether two strings have memory in common. Strings of one byte are never new in Go.
func overlap(a, b string) bool {
	if len(a) < 2 || len(b) < 2 {
		return false
	}
	x, y := uintptr(unsafe.Pointer(unsafe.StringData(a))), uintptr(unsafe.Pointer(unsafe.StringData(b)))
	return x < y+uintptr(len(b)) && y < x+uintptr(len(a))
}
