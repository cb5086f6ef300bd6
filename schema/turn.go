package schema

import (
	"slices"

	"needlebeam/api"
	"needlebeam/infer"
	"needlebeam/lex"
	"needlebeam/value"
)

// without are c's columns but those of the names. A name that comes again finds
// its column gone, as one finds none that was never there.
func without(c []api.Col, names []string) ([]api.Col, api.Errno) {
	stay := slices.Clone(c)
	for _, name := range names {
		at := infer.Find(stay, name)
		if at < 0 {
			return nil, api.ErrName
		}
		stay = slices.Delete(stay, at, at+1)
	}
	return stay, api.OK
}

// wrong tells why columns are no schema.
func wrong(c []api.Col) api.Errno {
	if !named(c) {
		return api.ErrName
	}
	if slices.ContainsFunc(c, kindless) {
		return api.ErrType
	}
	if len(c) > api.MaxCols {
		return api.ErrLong
	}
	return api.OK
}

// named says whether each column has a name, and no two have one.
func named(c []api.Col) bool {
	for _, col := range c {
		if !lex.Name(col.Name) {
			return false
		}
	}
	return len(firstPlaces(c)) == len(c)
}

// kindless says whether a column has a kind that no value but null has.
func kindless(col api.Col) bool {
	return value.Name(col.Kind) == ""
}

// lacking are a's columns that b hasn't. They are looked up, as lists that are
// no schemas may be long.
func lacking(a, b []api.Col) []api.Col {
	has := map[api.Col]struct{}{}
	for _, col := range b {
		has[col] = struct{}{}
	}
	var l []api.Col
	for _, col := range a {
		if _, found := has[col]; !found {
			l = append(l, col)
		}
	}
	return l
}

// firstPlaces are the names of c's columns, each with the place of the first
// column that has it.
func firstPlaces(c []api.Col) map[string]int {
	first := map[string]int{}
	for i, col := range c {
		if _, again := first[col.Name]; !again {
			first[col.Name] = i
		}
	}
	return first
}
