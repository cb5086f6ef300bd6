package mig

import (
	"needlebeam/api"
	"needlebeam/expr"
	"needlebeam/value"
)

// reader goes over words from the left, and panics with the first fault: nothing
// behind that is read, whatever is being read around it.
type reader struct {
	words []api.Tok // the last one is the end, which is never over
	at    int       // of the word that comes next
}

func (r *reader) next() api.Tok {
	return r.words[r.at]
}

// fail panics at the next word.
func (r *reader) fail(code api.Errno) {
	panic(api.Fault{Code: code, At: r.next().At})
}

// is says whether the next word is this mark, or this reserved word: a text may
// have the bytes of either.
func (r *reader) is(sign string) bool {
	w := r.next()
	return w.Text == sign && (w.Kind == api.TokMark || w.Kind == api.TokWord)
}

// take reads this mark, or this reserved word.
func (r *reader) take(sign string) {
	if !r.is(sign) {
		r.fail(api.ErrForm)
	}
	r.at++
}

// moves reads all that there are. One too many is so by its first word,
// whether a move can begin with it or not.
func (r *reader) moves() []api.Move {
	var l []api.Move
	for r.next().Kind != api.TokEnd {
		if len(l) == api.MaxMoves {
			r.fail(api.ErrLong)
		}
		l = append(l, r.move())
	}
	return l
}

func (r *reader) move() api.Move {
	m := api.Move{Kind: r.kind(kindOf)}
	switch m.Kind {
	case api.MoveAdd:
		r.comes(&m)
	case api.MoveDrop:
		r.goes(&m)
		r.back(&m)
	case api.MoveRename:
		r.goes(&m)
		r.renamed(&m)
	case api.MoveSplit:
		r.goes(&m)
		r.take(wordInto)
		r.some(&m, r.comes)
		r.back(&m)
	case api.MoveMerge:
		r.some(&m, r.goes)
		r.take(wordInto)
		r.comes(&m)
		r.back(&m)
	case api.MoveRetype:
		r.comes(&m)
		m.Take = []string{m.Give[0].Name}
		r.back(&m)
	}
	r.take(markOver)
	return m
}

// kind reads a reserved word that a function knows as a kind's; 0 is none.
func (r *reader) kind(known func(string) int) int {
	w := r.next()
	kind := known(w.Text)
	if w.Kind != api.TokWord || kind == 0 {
		r.fail(api.ErrForm)
	}
	r.at++
	return kind
}

func (r *reader) name() string {
	w := r.next()
	if w.Kind != api.TokName {
		r.fail(api.ErrForm)
	}
	r.at++
	return w.Text
}

func (r *reader) tree() api.Expr {
	x, behind, f := expr.At(r.words, r.at)
	if f.Code != api.OK {
		panic(f)
	}
	r.at = behind
	return x
}

// some reads two or more.
func (r *reader) some(m *api.Move, one func(*api.Move)) {
	one(m)
	r.take(markNext)
	one(m)
	for r.is(markNext) {
		r.take(markNext)
		one(m)
	}
}

// goes reads the name of a column that goes.
func (r *reader) goes(m *api.Move) {
	m.Take = append(m.Take, r.name())
}

// comes reads a column that comes, and what it is.
func (r *reader) comes(m *api.Move) {
	name := r.name()
	m.Give = append(m.Give, api.Col{Name: name, Kind: r.kind(value.Kind)})
	r.take(markIs)
	m.Ahead = append(m.Ahead, r.tree())
}

// renamed reads what a column that goes is called from then on, which is all
// that is said of the one that comes.
func (r *reader) renamed(m *api.Move) {
	r.take(wordTo)
	name := r.name()
	m.Give = []api.Col{{Name: name}}
	m.Ahead = []api.Expr{named(m.Take[0])}
	m.Back = []api.Expr{named(name)}
}

// back reads what each column was that goes.
func (r *reader) back(m *api.Move) {
	r.take(wordBack)
	for i := range m.Take {
		if i > 0 {
			r.take(markNext)
		}
		m.Back = append(m.Back, r.tree())
	}
}
