package show

import (
	"strings"

	"needlebeam/api"
	"needlebeam/value"
)

// The levels of nodes, from the loosest.
const (
	levelOr = iota
	levelAnd
	levelNot
	levelCompare
	levelSum
	levelProduct
	levelNeg
	levelElse
)

// markLevel is the level of a node with two sides; levelElse, if it has no mark
// that such a node may have.
func markLevel(mark string) int {
	switch mark {
	case "or":
		return levelOr
	case "and":
		return levelAnd
	case "=", "!=", "<", "<=", ">", ">=":
		return levelCompare
	case "+", "-", "&":
		return levelSum
	case "*", "/", "%":
		return levelProduct
	}
	return levelElse
}

// printer is a text that grows by trees, too. Those that it is handed are right.
type printer struct {
	strings.Builder
}

func (p *printer) tree(x api.Expr) {
	switch x.Op {
	case api.OpVal:
		p.WriteString(value.Print(x.Val))
	case api.OpName:
		p.WriteString(x.Text)
	case api.OpNeg:
		p.WriteString("-")
		p.kid(x.Kids[0], levelNeg)
	case api.OpNot:
		p.WriteString("not ")
		p.kid(x.Kids[0], levelNot)
	case api.OpBin:
		p.binary(x)
	case api.OpCall:
		p.call(x)
	}
}

// kid is a tree below another one: with brackets, if it is looser than may
// stand there without.
func (p *printer) kid(x api.Expr, loosest int) {
	if Level(x) >= loosest {
		p.tree(x)
		return
	}
	p.WriteString("(")
	p.tree(x)
	p.WriteString(")")
}

// binary is a node with two sides. As what stands on one level is read from the
// left, such a tree needs no brackets as a first kid, but as a second one; a
// comparison can't stand behind another one at all.
func (p *printer) binary(x api.Expr) {
	level := Level(x)
	first := level
	if level == levelCompare {
		first++
	}
	p.kid(x.Kids[0], first)
	p.WriteString(" " + x.Text + " ")
	p.kid(x.Kids[1], level+1)
}

func (p *printer) call(x api.Expr) {
	p.WriteString(x.Text + "(")
	for i, kid := range x.Kids {
		if i > 0 {
			p.WriteString(", ")
		}
		p.tree(kid)
	}
	p.WriteString(")")
}
