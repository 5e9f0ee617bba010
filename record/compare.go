package record

import (
	"slices"

	"testgate/api"
	"testgate/fact"
)

// Fields of a record, in the order in which they are compared.
const (
	fieldTest = iota
	fieldRevision
	fieldEnvironment
	fieldLevel
	fieldResult
	fieldRandom
	fieldFacts
)

// Same tells whether two records are equal.
func Same(a, b api.Record) bool {
	same := true
fields:
	for field := fieldTest; same; field++ {
		switch field {
		case fieldTest:
			same = a.Test == b.Test
		case fieldRevision:
			same = a.Revision == b.Revision
		case fieldEnvironment:
			same = a.Environment == b.Environment
		case fieldLevel:
			same = a.Level == b.Level
		case fieldResult:
			same = a.Result == b.Result
		case fieldRandom:
			same = a.Random == b.Random
		case fieldFacts:
			same = slices.Equal(a.Facts, b.Facts)
		default:
			break fields
		}
	}
	return same
}

// Conflict tells whether two records cannot both be true: nothing that both depended on was different, but their runs were.
func Conflict(a, b api.Record) bool {
	if a.Test != b.Test || a.Environment != b.Environment || a.Level != b.Level || a.Random || b.Random {
		return false
	}
	a.Revision = b.Revision // runs at several revisions can be the same
	return !Same(a, b) && agree(a.Facts, b.Facts)
}

// Usable returns the indices of the records of a test in an environment that are not random and conflict with no other one.
func Usable(l []api.Record, test api.Name, environment int) []int {
	var out []int
records:
	for i, c := range l {
		if c.Test != test || c.Environment != environment || c.Random {
			continue
		}
		for _, other := range l { // no record conflicts with itself
			if Conflict(c, other) {
				continue records
			}
		}
		out = append(out, i)
	}
	return out
}

// agree tells whether no key that is in both lists has different contents.
func agree(a, b []api.Fact) bool {
	a, b = ascending(a), ascending(b)
	for len(a) > 0 && len(b) > 0 {
		switch fact.Compare(a[0].Key, b[0].Key) {
		case -1:
			a = a[1:]
		case 1:
			b = b[1:]
		default:
			if a[0] != b[0] || isDivided(a) || isDivided(b) {
				return false
			}
			a, b = a[1:], b[1:]
		}
	}
	return true
}

// ascending returns the facts of a list in the order of their keys; a key is there once, unless it has several contents. Those of a record that is right are so already.
func ascending(l []api.Fact) []api.Fact {
	for i := 1; i < len(l); i++ {
		if byKey(l[i-1], l[i]) >= 0 {
			return slices.Compact(slices.SortedFunc(slices.Values(l), byKey))
		}
	}
	return l
}

func byKey(a, b api.Fact) int { return fact.Compare(a.Key, b.Key) }

// isDivided tells whether the first key of ascending facts has several contents.
func isDivided(l []api.Fact) bool { return len(l) > 1 && l[0].Key == l[1].Key }
