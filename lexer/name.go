package lexer

import (
	"strings"

	"testgate/api"
)

// Name tells whether s is a name.
func Name(s string) bool {
	return consists(s, isOfName) && isLetter(s[0])
}

// Path tells whether s is a path.
func Path(s string) bool {
	if len(s) > api.MaxPath {
		return false
	}
	parts := strings.Split(s, "/")
	if len(parts) > api.MaxParts {
		return false
	}
	for _, part := range parts {
		if !consists(part, isOfPart) {
			return false
		}
	}
	return true
}

// consists tells whether s has 1 to MaxName bytes that all fit.
func consists(s string, fits func(c byte) bool) bool {
	return len(s) >= 1 && len(s) <= api.MaxName && span(s, 0, fits) == len(s)
}
