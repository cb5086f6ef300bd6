package lex

import (
	"strings"

	"needlebeam/api"
	"needlebeam/value"
)

// Which bytes stand where.
const (
	small   = "abcdefghijklmnopqrstuvwxyz" // a name begins with one
	digits  = "0123456789"
	inNames = small + digits + "_"
	singles = "(),;=<>+-*/%&:" // each is a mark
	blanks  = " \t\n"
)

const (
	textMark = '\'' // on both sides of a text; inside it stands twice
	note     = "#"
	noteEnd  = "\n"
)

// word is one of a source: its size is how many bytes it has there, its text
// those that it says.
type word struct {
	kind int
	text string
	size int
}

// run is how many bytes at the front of s are of a set.
func run(s, set string) int {
	return len(s) - len(strings.TrimLeft(s, set))
}

// between is how many bytes stand ahead of the first word of s, or its end.
func between(s string) int {
	rest := strings.TrimLeft(s, blanks)
	for strings.HasPrefix(rest, note) {
		_, rest, _ = strings.Cut(rest, noteEnd) // the last one may have no end
		rest = strings.TrimLeft(rest, blanks)
	}
	return len(s) - len(rest)
}

// first is the word at the front of s, which isn't empty.
func first(s string) (word, api.Errno) {
	switch {
	case run(s, small) > 0:
		return firstName(s)
	case run(s, digits) > 0:
		return firstNumber(s)
	case s[0] == textMark:
		return firstText(s)
	}
	return firstMark(s)
}

func firstName(s string) (word, api.Errno) {
	n := run(s, inNames)
	w := word{kind: api.TokName, text: s[:n], size: n}
	if n > api.MaxName {
		return word{}, api.ErrLong
	}
	if Reserved(w.text) {
		w.kind = api.TokWord
	}
	return w, api.OK
}

// firstNumber leaves it to value to say what is wrong with digits: a number is
// written as it is printed.
func firstNumber(s string) (word, api.Errno) {
	n := run(s, digits)
	if _, e := value.Read(s[:n]); e != api.OK {
		return word{}, e
	}
	return word{kind: api.TokNum, text: s[:n], size: n}, api.OK
}

// firstText reads a text as a value's print. As its marks stand as they should,
// it can be wrong just by having too many bytes.
func firstText(s string) (word, api.Errno) {
	n := textSize(s)
	if n == 0 {
		return word{}, api.ErrText
	}
	v, e := value.Read(s[:n])
	if e != api.OK {
		return word{}, api.ErrLong
	}
	return word{kind: api.TokText, text: v.S, size: n}, api.OK
}

// textSize is how many bytes the text at the front of s has, both marks among
// them; 0, if its end isn't there.
func textSize(s string) int {
	for at := 1; at < len(s); at++ {
		if s[at] != textMark {
			continue
		}
		at++
		if at == len(s) || s[at] != textMark {
			return at
		}
	}
	return 0
}

func firstMark(s string) (word, api.Errno) {
	n := markSize(s)
	if n == 0 {
		return word{}, api.ErrText
	}
	return word{kind: api.TokMark, text: s[:n], size: n}, api.OK
}

// markSize is how many bytes the mark at the front of s has; 0, if there is
// none. What begins with a mark of two bytes isn't one of a single byte.
func markSize(s string) int {
	switch {
	case strings.HasPrefix(s, "<="), strings.HasPrefix(s, ">="), strings.HasPrefix(s, "!="):
		return 2
	case strings.IndexByte(singles, s[0]) >= 0:
		return 1
	}
	return 0
}
