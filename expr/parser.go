package expr

import (
	"needlebeam/api"
	"needlebeam/value"
)

// parser goes over words from one on.
type parser struct {
	words []api.Tok
	at    int       // of the word that comes next
	deep  int       // brackets, calls and signs that aren't over
	fault api.Fault // as soon as a rule answers false
}

// rule reads what begins with the next word, as far as it goes; false, if there
// is a fault.
type rule func() (api.Expr, bool)

// word is one of the list; an end at 0, if it isn't there.
func (p *parser) word(i int) api.Tok {
	if i < 0 || i >= len(p.words) {
		return api.Tok{}
	}
	return p.words[i]
}

func (p *parser) next() api.Tok {
	return p.word(p.at)
}

func (p *parser) fail(code api.Errno, at int) (api.Expr, bool) {
	p.fault = api.Fault{Code: code, At: at}
	return api.Expr{}, false
}

// sign is the mark, or the reserved word, that a word is; nothing of others, as
// a text may have the bytes of a mark.
func sign(w api.Tok) string {
	if w.Kind == api.TokMark || w.Kind == api.TokWord {
		return w.Text
	}
	return ""
}

// takes lets the next word be over, if it is that sign; else it can't stand
// there.
func (p *parser) takes(want string) bool {
	if sign(p.next()) != want {
		p.fail(api.ErrForm, p.next().At)
		return false
	}
	p.at++
	return true
}

func (p *parser) or() (api.Expr, bool) {
	return p.fromLeft(levelOr, p.and)
}

func (p *parser) and() (api.Expr, bool) {
	return p.fromLeft(levelAnd, p.not)
}

func (p *parser) not() (api.Expr, bool) {
	return p.ahead("not", api.OpNot, p.compared)
}

// compared takes one comparison at most, so that a second one can't stand
// behind it.
func (p *parser) compared() (api.Expr, bool) {
	x, ok := p.sum()
	if !ok || level(sign(p.next())) != levelCompare {
		return x, ok
	}
	return p.binary(x, p.sum)
}

func (p *parser) sum() (api.Expr, bool) {
	return p.fromLeft(levelSum, p.product)
}

func (p *parser) product() (api.Expr, bool) {
	return p.fromLeft(levelProduct, p.negative)
}

func (p *parser) negative() (api.Expr, bool) {
	return p.ahead("-", api.OpNeg, p.single)
}

// fromLeft reads marks of a level, with what the rule below it reads on all
// sides.
func (p *parser) fromLeft(of int, below rule) (api.Expr, bool) {
	x, ok := below()
	for ok && level(sign(p.next())) == of {
		x, ok = p.binary(x, below)
	}
	return x, ok
}

// binary reads a mark with two sides, of which the first was read already.
func (p *parser) binary(x api.Expr, below rule) (api.Expr, bool) {
	mark := p.next().Text
	p.at++
	y, ok := below()
	return api.Expr{Op: api.OpBin, Text: mark, Kids: []api.Expr{x, y}}, ok
}

// ahead reads as many signs of a kind as stand ahead of what the rule below it
// reads.
func (p *parser) ahead(want string, op int, below rule) (api.Expr, bool) {
	if sign(p.next()) != want {
		return below()
	}
	return p.nested(func() (api.Expr, bool) {
		x, ok := p.ahead(want, op, below)
		return api.Expr{Op: op, Kids: []api.Expr{x}}, ok
	})
}

// nested lets a word be over behind which all that the rule reads is nested one
// deeper.
func (p *parser) nested(inside rule) (api.Expr, bool) {
	if p.deep == api.MaxDeep {
		return p.fail(api.ErrDeep, p.next().At)
	}
	p.at++
	p.deep++
	x, ok := inside()
	p.deep--
	return x, ok
}

// single reads what has no sign outside brackets.
func (p *parser) single() (api.Expr, bool) {
	w := p.next()
	switch {
	case sign(w) == "(":
		return p.nested(func() (api.Expr, bool) {
			x, ok := p.or()
			return x, ok && p.takes(")")
		})
	case w.Kind == api.TokName && sign(p.word(p.at+1)) == "(":
		return p.call()
	}
	x := leaf(w)
	if !Right(x) {
		return p.fail(api.ErrForm, w.At)
	}
	p.at++
	return x, true
}

// call reads a name with a bracket behind it. That bracket is the word behind
// which it is deeper: the name alone might be a column's.
func (p *parser) call() (api.Expr, bool) {
	name := p.next()
	arity := Arity(name.Text)
	if arity < 0 {
		return p.fail(api.ErrName, name.At)
	}
	p.at++
	return p.nested(func() (api.Expr, bool) {
		kids, ok := p.list()
		switch {
		case !ok:
			return api.Expr{}, false
		case len(kids) != arity:
			return p.fail(api.ErrForm, name.At)
		}
		return api.Expr{Op: api.OpCall, Text: name.Text, Kids: kids}, true
	})
}

// list reads expressions with commas between, and the bracket behind them.
func (p *parser) list() ([]api.Expr, bool) {
	var l []api.Expr
	for {
		x, ok := p.or()
		if !ok {
			return nil, false
		}
		l = append(l, x)
		if sign(p.next()) != "," {
			return l, p.takes(")")
		}
		p.at++
	}
}

// leaf is the node that a word is by itself; one that isn't right, if it is
// none. A text is taken as it is: of a list that lex didn't tell it may be too
// long.
func leaf(w api.Tok) api.Expr {
	switch w.Kind {
	case api.TokName:
		return api.Expr{Op: api.OpName, Text: w.Text}
	case api.TokText:
		return api.Expr{Op: api.OpVal, Val: api.Value{Kind: api.KText, S: w.Text}}
	case api.TokNum, api.TokWord:
		if v, e := value.Read(w.Text); e == api.OK {
			return api.Expr{Op: api.OpVal, Val: v}
		}
	}
	return api.Expr{}
}
