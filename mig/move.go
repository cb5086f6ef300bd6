package mig

import (
	"slices"

	"needlebeam/api"
	"needlebeam/expr"
	"needlebeam/lex"
	"needlebeam/value"
)

// The words and the marks within moves' texts.
const (
	wordInto = "into"
	wordTo   = "to"
	wordBack = "back"
	markIs   = "="
	markNext = ","
	markOver = ";"
)

// kindOf is the kind of the moves that a word begins; 0, if it begins none.
func kindOf(word string) int {
	for kind := api.MoveAdd; kind <= api.MoveRetype; kind++ {
		if Word(kind) == word {
			return kind
		}
	}
	return 0
}

// named is the tree of a name alone.
func named(name string) api.Expr {
	return api.Expr{Op: api.OpName, Text: name}
}

// all says whether something holds of each one in a list.
func all[T any](l []T, holds func(T) bool) bool {
	for _, one := range l {
		if !holds(one) {
			return false
		}
	}
	return true
}

// right says whether some text says a move.
func right(m api.Move) bool {
	return counted(m) && all(m.Take, lex.Name) && all(m.Give, columnBy(m.Kind)) &&
		all(m.Ahead, expr.Right) && all(m.Back, expr.Right) && agreed(m)
}

// counted says whether a move has as many of all as one of its kind has. There
// is a tree for each column that comes, and one for each that goes.
func counted(m api.Move) bool {
	take, give := len(m.Take), len(m.Give)
	if len(m.Ahead) != give || len(m.Back) != take {
		return false
	}
	switch m.Kind {
	case api.MoveAdd:
		return take == 0 && give == 1
	case api.MoveDrop:
		return take == 1 && give == 0
	case api.MoveRename, api.MoveRetype:
		return take == 1 && give == 1
	case api.MoveSplit:
		return take == 1 && give >= 2
	case api.MoveMerge:
		return take >= 2 && give == 1
	}
	return false
}

// columnBy says of a column whether it may come by a move of that kind. A
// rename doesn't tell what kind its column is of.
func columnBy(move int) func(api.Col) bool {
	return func(c api.Col) bool {
		if move == api.MoveRename {
			return lex.Name(c.Name) && c.Kind == api.KNull
		}
		return lex.Name(c.Name) && value.Name(c.Kind) != ""
	}
}

// agreed says of a move that is counted whether all that its text says just
// once, but stands in it more often, is the same there.
func agreed(m api.Move) bool {
	switch m.Kind {
	case api.MoveRename:
		return expr.Same(m.Ahead[0], named(m.Take[0])) && expr.Same(m.Back[0], named(m.Give[0].Name))
	case api.MoveRetype:
		return m.Give[0].Name == m.Take[0]
	}
	return true
}

// same says whether two moves are, right ones or not.
func same(a, b api.Move) bool {
	return a.Kind == b.Kind && slices.Equal(a.Take, b.Take) && slices.Equal(a.Give, b.Give) &&
		slices.EqualFunc(a.Ahead, b.Ahead, expr.Same) && slices.EqualFunc(a.Back, b.Back, expr.Same)
}
