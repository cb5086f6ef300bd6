package eval

import (
	"slices"

	"needlebeam/api"
	"needlebeam/infer"
	"needlebeam/value"
)

// over is a row over its columns, over which trees are reckoned.
type over struct {
	cols []api.Col
	row  []api.Value
}

// are says whether values are of those kinds, one each, in order; null is of
// each.
func are(l []api.Value, kinds ...int) bool {
	return slices.EqualFunc(l, kinds, func(v api.Value, kind int) bool {
		return v.Kind == kind || v.Kind == api.KNull
	})
}

func fail(e api.Errno) (api.Value, api.Errno) {
	return value.Null(), e
}

// truth lets null, true and false go on, and what was wrong already.
func truth(v api.Value, e api.Errno) (api.Value, api.Errno) {
	switch {
	case e != api.OK:
		return fail(e)
	case !are([]api.Value{v}, api.KBool):
		return fail(api.ErrType)
	}
	return v, api.OK
}

// comesTo is what a tree comes to that is right. Those nodes are told apart here
// that don't reckon all of their kids, or take null for more than null.
func (o over) comesTo(x api.Expr) (api.Value, api.Errno) {
	switch x.Op {
	case api.OpVal:
		return x.Val, api.OK
	case api.OpName:
		return o.column(x.Text)
	}
	switch x.Text {
	case "or":
		return o.decided(x.Kids, value.Bool(true))
	case "and":
		return o.decided(x.Kids, value.Bool(false))
	case "isnull":
		return o.isNull(x.Kids[0])
	case "nvl":
		return o.firstKnown(x.Kids)
	case "if":
		return o.chosen(x.Kids)
	}
	return o.ofAll(x)
}

func (o over) column(name string) (api.Value, api.Errno) {
	i := infer.Find(o.cols, name)
	if i < 0 {
		return fail(api.ErrName)
	}
	return o.row[i], api.OK
}

// decided is the value by which one kid decides all, if one comes to it; kids
// behind that one aren't reckoned.
func (o over) decided(kids []api.Expr, by api.Value) (api.Value, api.Errno) {
	otherwise := value.Bool(by == value.Bool(false))
	for _, kid := range kids {
		v, e := truth(o.comesTo(kid))
		switch {
		case e != api.OK:
			return fail(e)
		case v == by:
			return by, api.OK
		case v == value.Null():
			otherwise = value.Null()
		}
	}
	return otherwise, api.OK
}

func (o over) isNull(kid api.Expr) (api.Value, api.Errno) {
	v, e := o.comesTo(kid)
	if e != api.OK {
		return fail(e)
	}
	return value.Bool(v == value.Null()), api.OK
}

func (o over) firstKnown(kids []api.Expr) (api.Value, api.Errno) {
	v, e := o.comesTo(kids[0])
	if e != api.OK || v != value.Null() {
		return v, e
	}
	return o.comesTo(kids[1])
}

func (o over) chosen(kids []api.Expr) (api.Value, api.Errno) {
	v, e := truth(o.comesTo(kids[0]))
	switch {
	case e != api.OK:
		return fail(e)
	case v == value.Bool(true):
		return o.comesTo(kids[1])
	}
	return o.comesTo(kids[2])
}

// ofAll is what a node comes to that asks for all of its kids, and is null as
// soon as one of them is, whatever kinds the others are of.
func (o over) ofAll(x api.Expr) (api.Value, api.Errno) {
	var l []api.Value
	for _, kid := range x.Kids {
		v, e := o.comesTo(kid)
		if e != api.OK {
			return fail(e)
		}
		l = append(l, v)
	}
	if slices.Contains(l, value.Null()) {
		return value.Null(), api.OK
	}
	switch x.Op {
	case api.OpBin:
		return marked(x.Text, l)
	case api.OpCall:
		return called(x.Text, l)
	}
	return signed(x.Op, l)
}
