package schema

import (
	"needlebeam/api"
	"needlebeam/infer"
	"needlebeam/value"
)

// columns are those that words say; the end stands behind them.
func columns(words []api.Tok) ([]api.Col, api.Fault) {
	var c []api.Col
	for {
		col, f := column(words)
		if f.Code != api.OK {
			return nil, f
		}
		if e := joins(c, col.Name); e != api.OK {
			return nil, api.Fault{Code: e, At: words[0].At}
		}
		c = append(c, col)
		behind := words[2]
		if behind.Kind == api.TokEnd {
			return c, api.Fault{}
		}
		if behind.Kind != api.TokMark || behind.Text != "," {
			return nil, misplaced(behind)
		}
		words = words[3:]
	}
}

// column is the one that the first two words say. There is a second one, as a
// name is not the end.
func column(words []api.Tok) (api.Col, api.Fault) {
	if words[0].Kind != api.TokName {
		return api.Col{}, misplaced(words[0])
	}
	kind := value.Kind(words[1].Text)
	if words[1].Kind != api.TokWord || kind == api.KNull {
		return api.Col{}, misplaced(words[1])
	}
	return api.Col{Name: words[0].Text, Kind: kind}, api.Fault{}
}

// joins tells what is wrong with one column more of that name.
func joins(c []api.Col, name string) api.Errno {
	if infer.Find(c, name) >= 0 {
		return api.ErrName
	}
	if len(c) == api.MaxCols {
		return api.ErrLong
	}
	return api.OK
}

// misplaced is the fault of a word that can't stand where it does.
func misplaced(word api.Tok) api.Fault {
	return api.Fault{Code: api.ErrForm, At: word.At}
}
