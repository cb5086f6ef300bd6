package mig

import (
	"strings"

	"needlebeam/api"
	"needlebeam/show"
	"needlebeam/value"
)

// printer is a text that grows by moves, all of them right. It panics with a
// fault as soon as it would be too long, as a move's lists may be of any length.
type printer struct {
	strings.Builder
}

func (p *printer) say(s string) {
	if p.Len()+len(s) > api.MaxSource {
		panic(api.Fault{Code: api.ErrLong})
	}
	p.WriteString(s)
}

// apart says a word, or a mark, with blanks around it.
func (p *printer) apart(sign string) {
	p.say(" " + sign + " ")
}

func (p *printer) move(m api.Move) {
	p.say(Word(m.Kind) + " ")
	switch m.Kind {
	case api.MoveAdd:
		p.comes(m)
	case api.MoveDrop:
		p.goes(m)
		p.back(m)
	case api.MoveRename:
		p.goes(m)
		p.apart(wordTo)
		p.say(m.Give[0].Name)
	case api.MoveSplit, api.MoveMerge:
		p.goes(m)
		p.apart(wordInto)
		p.comes(m)
		p.back(m)
	case api.MoveRetype:
		p.comes(m)
		p.back(m)
	}
	p.say(markOver + "\n")
}

// goes says the names of the columns that go.
func (p *printer) goes(m api.Move) {
	for i, name := range m.Take {
		p.between(i)
		p.say(name)
	}
}

// comes says the columns that come, and what each is.
func (p *printer) comes(m api.Move) {
	for i, c := range m.Give {
		p.between(i)
		p.say(c.Name + " " + value.Name(c.Kind))
		p.apart(markIs)
		p.tree(m.Ahead[i])
	}
}

// back says what each column was that goes.
func (p *printer) back(m api.Move) {
	p.apart(wordBack)
	for i, x := range m.Back {
		p.between(i)
		p.tree(x)
	}
}

// between says what stands ahead of the one at a place in a list.
func (p *printer) between(place int) {
	if place > 0 {
		p.say(markNext + " ")
	}
}

func (p *printer) tree(x api.Expr) {
	s, e := show.Print(x)
	if e != api.OK {
		panic(api.Fault{Code: e})
	}
	p.say(s)
}
