package expr

import (
	"iter"
	"slices"

	"needlebeam/api"
	"needlebeam/lex"
	"needlebeam/value"
)

// The levels of the marks with two sides, from the loosest.
const (
	levelNone = iota
	levelOr
	levelAnd
	levelCompare
	levelSum
	levelProduct
)

// level is that of a mark; levelNone, if it isn't one with two sides.
func level(mark string) int {
	switch mark {
	case "or":
		return levelOr
	case "and":
		return levelAnd
	case "=", "!=", "<", "<=", ">", ">=":
		return levelCompare
	case "+", "-", "&":
		return levelSum
	case "*", "/", "%":
		return levelProduct
	}
	return levelNone
}

// nodes tells all nodes of a tree as they stand, each ahead of its kids, with
// how many stand one below the other down to it. It keeps what is still to be
// gone through itself, as a tree that is none may be of any depth.
func nodes(x api.Expr) iter.Seq2[api.Expr, int] {
	return func(yield func(api.Expr, int) bool) {
		rest := [][]api.Expr{{x}} // at each depth
		for len(rest) > 0 {
			deep := len(rest)
			row := rest[deep-1]
			if len(row) == 0 {
				rest = rest[:deep-1]
				continue
			}
			if !yield(row[0], deep) {
				return
			}
			rest[deep-1] = row[1:]
			rest = append(rest, row[0].Kids)
		}
	}
}

// rightNode says whether a node is right by itself, whatever its kids are.
// Where a node of its kind has nothing, there must be nothing.
func rightNode(x api.Expr) bool {
	noText, noVal, kids := x.Text == "", x.Val == value.Null(), len(x.Kids)
	switch x.Op {
	case api.OpVal:
		return noText && rightVal(x.Val) && kids == 0
	case api.OpName:
		return lex.Name(x.Text) && noVal && kids == 0
	case api.OpNeg, api.OpNot:
		return noText && noVal && kids == 1
	case api.OpBin:
		return level(x.Text) != levelNone && noVal && kids == 2
	case api.OpCall:
		return kids == Arity(x.Text) && noVal
	}
	return false
}

// rightVal says whether a value may stand in a tree. A number below 0 has a
// sign ahead, which is a node of its own.
func rightVal(v api.Value) bool {
	return value.Plain(v) && (v.Kind != api.KInt || v.N >= 0)
}

// withKids is a node with what a function makes of each kid, in a list of its
// own.
func withKids(x api.Expr, made func(api.Expr) api.Expr) api.Expr {
	x.Kids = slices.Clone(x.Kids)
	for i, kid := range x.Kids {
		x.Kids[i] = made(kid)
	}
	return x
}

// copied is the same tree, in memory of its own.
func copied(x api.Expr) api.Expr {
	return withKids(x, copied)
}
