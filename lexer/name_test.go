package lexer_test

import (
	"regexp"
	"strings"
	"testing"

	"testgate/api"
	"testgate/lexer"
)

var (
	namePattern = regexp.MustCompile(`^[a-z][a-z0-9_]{0,23}$`)
	pathPattern = regexp.MustCompile(`^[a-z0-9_.]{1,24}(?:/[a-z0-9_.]{1,24}){0,7}$`)
)

// compareNames checks what Name and Path say of a string.
func compareNames(t *testing.T, s string) {
	t.Helper()
	if got := lexer.Name(s); got != (namePattern.MatchString(s)) {
		t.Errorf("Name of %q: %v", s, got)
	}
	if got := lexer.Path(s); got != (pathPattern.MatchString(s) && len(s) <= 80) {
		t.Errorf("Path of %q: %v", s, got)
	}
}

func TestName(t *testing.T) {
	long := strings.Repeat("n", api.MaxName)
	for s, want := range map[string]bool{
		"a": true, "z": true, "a0": true, "z9_": true, "a__": true, "read": true, "package": true, long: true, long[2:] + "_9": true,
		"": false, "_": false, "_a": false, "0": false, "9a": false, "A": false, "aB": false, "a.b": false, "a/b": false, "a b": false, " a": false, "a ": false, "a\n": false, "a-": false, "\u00e9": false, "a\x80": false, "a\x00": false,
		long + "n": false, strings.Repeat("n", 1<<20): false,
	} {
		if got := lexer.Name(s); got != want {
			t.Errorf("Name of %.40q: %v", s, got)
		}
	}
}

func TestPath(t *testing.T) {
	part := strings.Repeat("p", api.MaxName)
	full := part + "/" + part + "/" + part + "/abcde" // MaxPath bytes
	eight := strings.Repeat("a/", api.MaxParts-1) + "a"
	for s, want := range map[string]bool{
		"a": true, "5": true, "_": true, ".": true, "..": true, "a/b/c.src": true, "9/_/.": true, "if": true, part: true, part + "/" + part: true, full: true, eight: true, strings.Repeat("abcdefghi/", 7) + "0123456789": true,
		"": false, "/": false, "//": false, "a/": false, "/a": false, "a//b": false, "A": false, "a/B": false, "a b": false, "a/ b": false, "a\\b": false, "a-b": false, "a\n": false, "\u00e9": false, "a/\x80": false, "a\x00": false, "\"": false,
		part + "p": false, "a/" + part + "p": false, part + "p/a": false, full + "f": false, eight + "/a": false, eight + "/": false, strings.Repeat("abcdefghi/", 7) + "0123456789a": false, strings.Repeat("abcdefghi/", 7) + "a/b": false, strings.Repeat("a/", 1<<20): false,
	} {
		if got := lexer.Path(s); got != want {
			t.Errorf("Path of %.100q: %v", s, got)
		}
	}
	if len(full) != api.MaxPath {
		t.Errorf("the longest path of this test has %d bytes", len(full))
	}
}

func TestNamesOfEveryByte(t *testing.T) {
	for n := range 256 {
		c := string([]byte{byte(n)})
		for _, begin := range []string{"", "a", "5", "/", "a/", "ab.c/d"} {
			for _, last := range []string{"", "a", "5", "/", "/a", "_/b.c", c} {
				compareNames(t, begin+c+last)
			}
		}
	}
}

func TestNamesOfAllLengths(t *testing.T) {
	for parts := range 12 {
		for length := range 30 {
			part := strings.Repeat("x", length)
			path := strings.Repeat(part+"/", parts) + part
			compareNames(t, path)
			for more := range 5 {
				compareNames(t, path+strings.Repeat("y", more))
				compareNames(t, path+"/"+strings.Repeat("y", more))
			}
		}
	}
}

// TestNamesAreTokens checks that a name is what Tokens takes for one.
func TestNamesAreTokens(t *testing.T) {
	for _, s := range []string{"a", "a_1", "9", "_", "a b", "a;", "test", " a", "a#", strings.Repeat("q", api.MaxName), strings.Repeat("q", api.MaxName+1), "", "a.b", "A"} {
		l, _, e := lexer.Tokens(s)
		one := e == api.OK && len(l) == 2 && l[0].Kind == api.TokenName && l[0].Text == s
		if one != lexer.Name(s) {
			t.Errorf("Name of %q: %v, its tokens: %v", s, lexer.Name(s), l)
		}
	}
}
