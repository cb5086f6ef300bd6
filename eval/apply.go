package eval

import (
	"needlebeam/api"
	"needlebeam/num"
	"needlebeam/value"
)

// signed is what a sign ahead of one comes to. As in the other functions of
// nodes here, none of the values is null.
func signed(op int, l []api.Value) (api.Value, api.Errno) {
	switch {
	case op == api.OpNeg && are(l, api.KInt):
		return whole(num.Neg(l[0].N))
	case op == api.OpNot && are(l, api.KBool):
		return value.Bool(l[0] == value.Bool(false)), api.OK
	}
	return fail(api.ErrType)
}

// called is what a function comes to.
func called(name string, l []api.Value) (api.Value, api.Errno) {
	switch {
	case name == "len" && are(l, api.KText):
		return value.Int(int64(len(l[0].S))), api.OK
	case name == "str" && are(l, api.KInt):
		return value.Text(num.Print(l[0].N)), api.OK
	case name == "num" && are(l, api.KText):
		return whole(num.Read(l[0].S))
	case name == "left" && are(l, api.KText, api.KInt):
		return value.Text(l[0].S[:within(l[1].N, len(l[0].S))]), api.OK
	case name == "right" && are(l, api.KText, api.KInt):
		return value.Text(l[0].S[len(l[0].S)-within(l[1].N, len(l[0].S)):]), api.OK
	}
	return fail(api.ErrType)
}

// within is a number of bytes of so many that there are.
func within(n int64, most int) int {
	return int(min(max(n, 0), int64(most)))
}

// marked is what a mark with two sides comes to.
func marked(mark string, l []api.Value) (api.Value, api.Errno) {
	switch mark {
	case "=", "!=", "<", "<=", ">", ">=":
		if are(l, l[0].Kind, l[0].Kind) {
			return value.Bool(stands(mark, value.Compare(l[0], l[1]))), api.OK
		}
	case "&":
		if are(l, api.KText, api.KText) {
			return joined(l[0].S + l[1].S)
		}
	default:
		if are(l, api.KInt, api.KInt) {
			return whole(reckoned(mark, l[0].N, l[1].N))
		}
	}
	return fail(api.ErrType)
}

// stands says whether a comparison is true of two values of which the first
// stands ahead of the second one (below 0), is the same (0), or stands behind it.
func stands(mark string, order int) bool {
	switch mark {
	case "=":
		return order == 0
	case "!=":
		return order != 0
	case "<":
		return order < 0
	case "<=":
		return order <= 0
	case ">":
		return order > 0
	}
	return order >= 0
}

// joined is a text, if it isn't too long: value.Text would cut it.
func joined(s string) (api.Value, api.Errno) {
	if len(s) > api.MaxText {
		return fail(api.ErrLong)
	}
	return value.Text(s), api.OK
}

func reckoned(mark string, a, b int64) (int64, api.Errno) {
	switch mark {
	case "+":
		return num.Add(a, b)
	case "-":
		return num.Sub(a, b)
	case "*":
		return num.Mul(a, b)
	case "/":
		return num.Div(a, b)
	}
	return num.Rem(a, b)
}

// whole is a number as a value, or what was wrong with it.
func whole(n int64, e api.Errno) (api.Value, api.Errno) {
	if e != api.OK {
		return fail(e)
	}
	return value.Int(n), api.OK
}
