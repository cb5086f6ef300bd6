package infer

import (
	"needlebeam/api"
)

// shared is asked of kids that are all of one kind, whichever that is; what
// gives it has that kind.
const shared = -1

// shape is which kind a node has, and which ones it asks of its kids, in order.
type shape struct {
	gives int
	asks  []int
}

// shapeOf is the shape of a node that has kids. No mark is called as a function
// is, so that the text tells which it is.
func shapeOf(x api.Expr) shape {
	switch x.Op {
	case api.OpNeg:
		return shape{api.KInt, []int{api.KInt}}
	case api.OpNot:
		return shape{api.KBool, []int{api.KBool}}
	}
	switch x.Text {
	case "or", "and":
		return shape{api.KBool, []int{api.KBool, api.KBool}}
	case "=", "!=", "<", "<=", ">", ">=":
		return shape{api.KBool, []int{shared, shared}}
	case "+", "-", "*", "/", "%":
		return shape{api.KInt, []int{api.KInt, api.KInt}}
	case "&":
		return shape{api.KText, []int{api.KText, api.KText}}
	case "len", "num":
		return shape{api.KInt, []int{api.KText}}
	case "str":
		return shape{api.KText, []int{api.KInt}}
	case "left", "right":
		return shape{api.KText, []int{api.KText, api.KInt}}
	case "isnull":
		return shape{api.KBool, []int{shared}}
	case "nvl":
		return shape{shared, []int{shared, shared}}
	}
	return shape{shared, []int{api.KBool, shared, shared}} // if
}

// goes says whether a kind may stand where another one is asked.
func goes(kind, asked int) bool {
	return kind == asked || kind == api.KNull
}

// over is the kind that the node has over kids of those kinds.
func (s shape) over(kids []int) (int, api.Errno) {
	one := api.KNull // of those of which shared is asked, as far as they are known
	for i, kind := range kids {
		asked := s.asks[i]
		if asked == shared {
			if one == api.KNull {
				one = kind
			}
			asked = one
		}
		if !goes(kind, asked) {
			return api.KNull, api.ErrType
		}
	}
	if s.gives == shared {
		return one, api.OK
	}
	return s.gives, api.OK
}

// kindOf is the kind of a tree that is right, over columns that go together, or
// what is wrong.
func kindOf(x api.Expr, cols []api.Col) (int, api.Errno) {
	switch x.Op {
	case api.OpVal:
		return x.Val.Kind, api.OK
	case api.OpName:
		return kindOfName(x.Text, cols)
	}
	var kids []int
	for _, kid := range x.Kids {
		kind, e := kindOf(kid, cols)
		if e != api.OK {
			return api.KNull, e
		}
		kids = append(kids, kind)
	}
	return shapeOf(x).over(kids)
}

func kindOfName(name string, cols []api.Col) (int, api.Errno) {
	i := Find(cols, name)
	if i < 0 {
		return api.KNull, api.ErrName
	}
	return cols[i].Kind, api.OK
}
