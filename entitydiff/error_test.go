package entitydiff_test

import (
	"fmt"
	"slices"
	"strings"
	"testing"

	"testgate/api"
	"testgate/entitydiff"
)

// Bytes, paths and names at the limits.
var (
	long     = "package " + longName + ";" + strings.Repeat("#", api.MaxBytes-9-api.MaxName)
	longName = strings.Repeat("n", api.MaxName)
	longPath = longName + "/" + longName + "/" + longName + "/n.src" // of MaxPath bytes
)

// full returns a revision of so many files with so many declarations and a number in all bodies.
func full(files, decls, number int) (r api.Revision) {
	for i := range files {
		s := fmt.Sprintf("package p%d; import p%d; ", i, (i+1)%api.MaxFiles)
		for k := range decls {
			s += fmt.Sprintf([]string{"func f%d() = %d;", "test t%d = %d;", "gen \"g%d\" = %d;"}[k%3], decls*i+k, number)
		}
		r.Files = append(r.Files, api.File{Path: fmt.Sprintf("f%02d.src", i), Bytes: s})
	}
	return r
}

// many returns an environment of so many variables with a value.
func many(n, value int) (env api.Environment) {
	for i := range n {
		env.Variables = append(env.Variables, api.Variable{Name: fmt.Sprintf("v%02d", i), Value: value})
	}
	return env
}

// goodRevisions and goodEnvironments are well-formed, some of them only just.
func goodRevisions() []api.Revision {
	return []api.Revision{of(), small(), full(api.MaxFiles, 0, 0), of(longPath, long)}
}

func goodEnvironments() []api.Environment {
	return []api.Environment{{}, variables("a=1 b=2"), many(api.MaxEnv, api.MaxValue), many(1, -api.MaxValue), {Variables: []api.Variable{{Name: longName}}}}
}

// badRevisions and badEnvironments have each of the errors that there are.
func badRevisions() []api.Revision {
	return []api.Revision{full(api.MaxFiles+1, 0, 0), of("", ""), of("A.src", fileP), of("a", "", "b/", ""), of("n"+longPath, ""), of("a", "1", "a", "1"), of("b.src", fileQ, "a.src", fileP), of("a", "", "b", long+"#")}
}

func badEnvironments() []api.Environment {
	return []api.Environment{many(api.MaxEnv+1, 1), {Variables: []api.Variable{{}}}, variables("A=1"), variables("1=1"), variables("a=1 b.=1"), variables("n" + longName + "=1"), variables("a=1 a=1"), variables("b=1 a=1"), many(2, api.MaxValue+1), many(2, -api.MaxValue-1)}
}

// compareErrors checks the errors and the results of all functions, which refuse the sides that are not good.
func compareErrors(t *testing.T, a, b point, goodA, goodB, goodEA, goodEB bool) {
	t.Helper()
	want := func(good ...bool) api.Errno {
		if slices.Contains(good, false) {
			return api.ErrInvalid
		}
		return api.OK
	}
	x, y := a.copied(), b.copied()
	revisions, e := entitydiff.Changed(a.r, b.r)
	if other := want(goodA, goodB); e != other || e != api.OK && len(revisions) > 0 {
		t.Errorf("Changed of %s and %s: %q, error %d instead of %d", brief(a.r), brief(b.r), words(revisions), e, other)
	}
	names, e := entitydiff.Packages(a.r, b.r)
	if other := want(goodA, goodB); e != other || e != api.OK && len(names) > 0 {
		t.Errorf("Packages of %s and %s: %q, error %d instead of %d", brief(a.r), brief(b.r), names, e, other)
	}
	env, e := entitydiff.Environments(a.env, b.env)
	if other := want(goodEA, goodEB); e != other || e != api.OK && len(env) > 0 {
		t.Errorf("Environments of %v and %v: %q, error %d instead of %d", a.env, b.env, words(env), e, other)
	}
	all, e := entitydiff.All(a.r, a.env, b.r, b.env)
	if other := want(goodA, goodB, goodEA, goodEB); e != other || e != api.OK && len(all) > 0 {
		t.Errorf("All of %s and %s: %q, error %d instead of %d", brief(a), brief(b), words(all), e, other)
	}
	if !a.same(x) || !b.same(y) {
		t.Errorf("%s or %s was changed", brief(x), brief(y))
	}
}

// TestErrors has every error of a revision and of an environment on each side, with good and with bad ones on the other (P16.1).
func TestErrors(t *testing.T) {
	goodR, badR := goodRevisions(), badRevisions()
	revisions := slices.Concat(goodR, badR)
	for i, a := range revisions {
		for k, b := range revisions {
			compareErrors(t, point{r: a}, point{r: b}, i < len(goodR), k < len(goodR), true, true)
		}
	}
	goodE, badE := goodEnvironments(), badEnvironments()
	environments := slices.Concat(goodE, badE)
	for i, a := range environments {
		for k, b := range environments {
			compareErrors(t, point{env: a}, point{env: b}, true, true, i < len(goodE), k < len(goodE))
		}
	}
	good := point{small(), goodE[1]}
	for i := range badR {
		bad := point{badR[i], badE[i]}
		onlyR, onlyE := point{badR[i], good.env}, point{good.r, badE[i]}
		compareErrors(t, bad, good, false, true, false, true)
		compareErrors(t, good, bad, true, false, true, false)
		compareErrors(t, bad, bad, false, false, false, false)
		compareErrors(t, onlyR, onlyE, false, true, true, false)
		compareErrors(t, onlyE, onlyR, true, false, false, true)
		compareErrors(t, onlyR, good, false, true, true, true)
		compareErrors(t, onlyE, good, true, true, false, true)
	}
}

// TestLimits has as many files, declarations, variables and bytes as there can be (P16.1).
func TestLimits(t *testing.T) {
	a := point{full(api.MaxFiles, api.MaxDecls, 1), many(api.MaxEnv, 1)}
	b := point{full(api.MaxFiles, api.MaxDecls, 2), many(api.MaxEnv, 2)}
	counts := map[string]int{}
	for _, word := range words(diff(t, a, b)) {
		kind, _, _ := strings.Cut(word, " ")
		counts[kind]++
	}
	if want := "map[data:64 env:16 files:64 func:1408 gen:1344 test:1344 tree:64]"; fmt.Sprint(counts) != want {
		t.Errorf("so many keys changed: %v", counts)
	}
	if got := words(diff(t, a, point{put(a.r, "f63.src", full(64, 64, 2).Files[63].Bytes), a.env})); len(got) != 64+1+1+64 {
		t.Errorf("%d keys changed: %q", len(got), got)
	}
	if got := diff(t, a, a); len(got) > 0 {
		t.Errorf("so many keys changed between equal sides: %d", len(got))
	}
	want := []string{"data " + longPath, "files " + longName, "tree " + longName}
	if got := words(diff(t, point{r: of(longPath, long)}, point{r: of(longPath, long[:len(long)-1])})); !slices.Equal(got, want) {
		t.Errorf("All of a long file is %q", got)
	}
}
