package eval

import (
	"math"
	"slices"
	"strconv"
	"strings"
	"testing"

	"needlebeam/api"
	"needlebeam/expr"
	"needlebeam/value"
)

const least = "(-9223372036854775807 - 1)"

// table are columns of all kinds; of each one is null in line.
func table() []api.Col {
	return []api.Col{{Name: "a", Kind: 1}, {Name: "t", Kind: 2}, {Name: "p", Kind: 3}, {Name: "n", Kind: 1}, {Name: "m", Kind: 2}, {Name: "q", Kind: 3}, {Name: "low", Kind: 1}, {Name: "len", Kind: 2}}
}

// line is a row over table.
func line() []api.Value {
	return []api.Value{value.Int(7), value.Text("it's"), value.Bool(true), {}, {}, {}, value.Int(math.MinInt64), value.Text(strings.Repeat("x", 150))}
}

// parsed is a source's tree.
func parsed(t *testing.T, src string) api.Expr {
	t.Helper()
	x, f := expr.Parse(src)
	if f.Code != api.OK {
		t.Fatalf("%s: %v", src, f)
	}
	return x
}

// comes says that sources come to what is printed so.
func comes(t *testing.T, wanted map[string]string) {
	t.Helper()
	for src, want := range wanted {
		v, e := Eval(parsed(t, src), table(), line())
		if e != api.OK || value.Print(v) != want {
			t.Errorf("%s: %v, error %d; asked for %s", src, v, e, want)
		}
		b, e := Holds(parsed(t, src), table(), line())
		wantE := api.ErrType
		if want == "true" || want == "false" || want == "null" {
			wantE = api.OK
		}
		if b != (want == "true") || e != wantE {
			t.Errorf("%s: holds %t, error %d", src, b, e)
		}
	}
}

// fails says that a tree comes to an error, over that row.
func fails(t *testing.T, x api.Expr, cols []api.Col, row []api.Value, want api.Errno) {
	t.Helper()
	if v, e := Eval(x, cols, row); v != (api.Value{}) || e != want {
		t.Errorf("%.200v: %v, error %d; asked for error %d", x.Text, v, e, want)
	}
	if b, e := Holds(x, cols, row); b || e != want {
		t.Errorf("%.200v: holds %t, error %d; asked for error %d", x.Text, b, e, want)
	}
}

// failing says that sources come to errors.
func failing(t *testing.T, wanted map[string]api.Errno) {
	t.Helper()
	for src, want := range wanted {
		t.Run(src, func(t *testing.T) {
			fails(t, parsed(t, src), table(), line(), want)
		})
	}
}

// P16.1
func TestLeaves(t *testing.T) {
	comes(t, map[string]string{
		"null": "null", "true": "true", "false": "false", "0": "0", "9223372036854775807": "9223372036854775807", "''": "''", "'It''s'": "'It''s'",
		"a": "7", "t": "'it''s'", "p": "true", "n": "null", "m": "null", "q": "null", "low": "-9223372036854775808", "len": "'" + strings.Repeat("x", 150) + "'",
	})
	failing(t, map[string]api.Errno{"z": api.ErrName, "aa": api.ErrName, "lo": api.ErrName, "lenn": api.ErrName, "str": api.ErrName})
}

// P16.1
func TestNumbers(t *testing.T) {
	comes(t, map[string]string{
		"a + 1": "8", "1 - a": "-6", "a * -3": "-21", "a / 2": "3", "-a / 2": "-3", "a / -2": "-3", "-a % 2": "-1", "a % -2": "1", "-a": "-7", "--a": "7", "a - 1 - 1": "5",
		"9223372036854775806 + 1": "9223372036854775807", least: "-9223372036854775808", "low / 1": "-9223372036854775808", "low % -1": "0", "low % 10": "-8", "low * 1": "-9223372036854775808", "4611686018427387904 * -2": "-9223372036854775808", "0 / a": "0",
	})
	failing(t, map[string]api.Errno{
		"9223372036854775807 + 1": api.ErrOver, "low - 1": api.ErrOver, "low + -1": api.ErrOver, "-low": api.ErrOver, "low / -1": api.ErrOver, "low * -1": api.ErrOver, "4611686018427387904 * 2": api.ErrOver, "0 - low": api.ErrOver,
		"a / 0": api.ErrDiv, "a % 0": api.ErrDiv, "0 / 0": api.ErrDiv, "low % 0": api.ErrDiv, "a / (a - 7)": api.ErrDiv,
	})
}

// P16.1
func TestTexts(t *testing.T) {
	long := strings.Repeat("y", 50)
	comes(t, map[string]string{
		"t & ' now'": "'it''s now'", "'' & ''": "''", "'b' & 'a'": "'ba'", "len(t)": "4", "len('')": "0", "len('ä')": "2", "len(len)": "150",
		"len & '" + long + "'": "'" + strings.Repeat("x", 150) + long + "'", "len(len & '" + long + "' & '')": "200", "len(right(len, 100) & left(len, 100))": "200",
		"str(a)": "'7'", "str(-a)": "'-7'", "str(low)": "'-9223372036854775808'", "num(str(low))": "-9223372036854775808", "num('12')": "12", "num('0')": "0", "num('-12') + a": "-5",
		"left(t, 2)": "'it'", "left(t, 0)": "''", "left(t, -1)": "''", "left(t, low)": "''", "left(t, 4)": "'it''s'", "left(t, 5)": "'it''s'", "left(t, 9223372036854775807)": "'it''s'", "left(t, 4294967297)": "'it''s'", "left('', 3)": "''", "left('ä', 1)": "'\xc3'",
		"right(t, 2)": "'''s'", "right(t, 0)": "''", "right(t, -1)": "''", "right(t, low)": "''", "right(t, 4)": "'it''s'", "right(t, 5)": "'it''s'", "right(t, 9223372036854775807)": "'it''s'", "right(t, 1)": "'s'", "right('ä', 1)": "'\xa4'",
	})
	failing(t, map[string]api.Errno{
		"len & '" + long + "z'": api.ErrLong, "len & len": api.ErrLong, "'z' & ('" + long + "' & len)": api.ErrLong, "left(len & len, 1)": api.ErrLong,
		"num('')": api.ErrConv, "num('x')": api.ErrConv, "num(' 1')": api.ErrConv, "num('01')": api.ErrConv, "num('-0')": api.ErrConv, "num('+1')": api.ErrConv, "num(t)": api.ErrConv,
		"num('9223372036854775808')": api.ErrOver, "num('-9223372036854775809')": api.ErrOver, "num('99999999999999999999')": api.ErrOver, "num('099999999999999999999')": api.ErrConv,
	})
}

// P16.1: by the order of values.
func TestComparisons(t *testing.T) {
	for _, l := range [][]string{{"low", "-1", "0", "a", "9223372036854775807"}, {"''", "'a'", "'a '", "'b'", "t", "'ä'"}, {"false", "true"}} {
		for i, x := range l {
			for j, y := range l {
				for mark, want := range map[string]bool{"=": i == j, "!=": i != j, "<": i < j, "<=": i <= j, ">": i > j, ">=": i >= j} {
					comes(t, map[string]string{x + " " + mark + " " + y: strconv.FormatBool(want)})
				}
			}
		}
	}
	comes(t, map[string]string{"'10' < '9'": "true", "p = true": "true", "p >= (1 = 2)": "true", "t = 'it''s'": "true", "'A' < 'a'": "true"})
}

// P16.1: what is null, and what isn't.
func TestNulls(t *testing.T) {
	comes(t, map[string]string{
		"-n": "null", "not q": "null", "n + 1": "null", "1 - n": "null", "n * n": "null", "n / 0": "null", "0 % n": "null", "n = n": "null", "n != 1": "null", "m < t": "null", "q >= p": "null", "m & t": "null", "t & m": "null",
		"len(m)": "null", "str(n)": "null", "num(m)": "null", "left(m, 1)": "null", "left(t, n)": "null", "right(m, n)": "null", "right(t, n)": "null", "n <= null": "null", "a > n": "null",
		"isnull(n)": "true", "isnull(null)": "true", "isnull(a)": "false", "isnull('')": "false", "isnull(0)": "false", "isnull(false)": "false", "isnull(n + 1)": "true", "isnull(isnull(n))": "false",
		"nvl(n, a)": "7", "nvl(a, 1)": "7", "nvl(n, m)": "null", "nvl(false, true)": "false", "nvl(0, 1)": "0", "nvl('', 'x')": "''", "nvl(nvl(n, null), 3)": "3",
		"if(p, 1, 2)": "1", "if(not p, 1, 2)": "2", "if(q, 1, 2)": "2", "if(null, 1, null)": "null", "if(n = 1, 1, 2)": "2", "if(p, null, 2)": "null",
	})
}

// P16.1: null stands ahead of kinds that don't go, at all nodes that ask for all
// kids.
func TestNullAheadOfKinds(t *testing.T) {
	comes(t, map[string]string{
		"n + t": "null", "t + n": "null", "p - null": "null", "n & a": "null", "null & p": "null", "n = t": "null", "t != null": "null", "left(a, n)": "null", "left(m, t)": "null", "right(n, p)": "null", "right(p, null)": "null", "m * 'x'": "null",
	})
	failing(t, map[string]api.Errno{
		"n + (t + 1)": api.ErrType, "n + 1 / 0": api.ErrDiv, "1 / 0 + n": api.ErrDiv, "left(n, num('x'))": api.ErrConv, "null = z": api.ErrName, "m & (len & len)": api.ErrLong,
	})
}

// P16.1: or, and.
func TestTruth(t *testing.T) {
	comes(t, map[string]string{
		"true or true": "true", "true or false": "true", "true or null": "true", "false or true": "true", "false or false": "false", "false or null": "null", "null or true": "true", "null or false": "null", "null or null": "null",
		"true and true": "true", "true and false": "false", "true and null": "null", "false and true": "false", "false and false": "false", "false and null": "false", "null and true": "null", "null and false": "false", "null and null": "null",
		"not true": "false", "not false": "true", "not not p": "true", "not null": "null",
		"true or 1 / 0 = 1": "true", "true or z": "true", "true or 1": "true", "true or t": "true", "false and 1 / 0 = 1": "false", "false and z": "false", "false and 1": "false", "q and false and z": "false", "(q or p) or z": "true",
	})
	failing(t, map[string]api.Errno{
		"false or 1 / 0 = 1": api.ErrDiv, "null or 1 / 0 = 1": api.ErrDiv, "true and 1 / 0 = 1": api.ErrDiv, "null and 1 / 0 = 1": api.ErrDiv, "null or z": api.ErrName, "true and z": api.ErrName,
		"1 or true": api.ErrType, "'a' or true": api.ErrType, "0 and false": api.ErrType, "t and z": api.ErrType, "1 or 1 / 0 = 1": api.ErrType, "1 or null": api.ErrType, "null or 1": api.ErrType, "false or 't'": api.ErrType, "true and 0": api.ErrType, "null and t": api.ErrType,
		"1 / 0 or 1": api.ErrDiv, "z or 1": api.ErrName, "q or z": api.ErrName, "not 1": api.ErrType, "not t": api.ErrType,
	})
}

// P16.1: what isn't reckoned has no error; what is reckoned has its own.
func TestReckoned(t *testing.T) {
	comes(t, map[string]string{
		"if(true, 1, 1 / 0)": "1", "if(false, z, 2)": "2", "if(null, 1 + t, 2)": "2", "if(p, 'a', 1)": "'a'", "if(not p, 1, t)": "'it''s'", "if(isnull(n), a, -t)": "7",
		"nvl(a, 1 / 0)": "7", "nvl(t, z)": "'it''s'", "nvl(n, t)": "'it''s'", "nvl(a, t)": "7",
	})
	failing(t, map[string]api.Errno{
		"nvl(a / 0, 1)": api.ErrDiv, "nvl(n, 1 / 0)": api.ErrDiv, "nvl(z, 1)": api.ErrName, "isnull(1 / 0)": api.ErrDiv, "isnull(z)": api.ErrName, "isnull(a + t)": api.ErrType,
		"if(1, 2, 3)": api.ErrType, "if('a', 2, 3)": api.ErrType, "if(0, z, z)": api.ErrType, "if(1 / 0 = 1, z, z)": api.ErrDiv, "if(true, 1 / 0, 1)": api.ErrDiv, "if(false, 1, z)": api.ErrName, "if(null, 1, num('x'))": api.ErrConv, "if(z, 1, 1 / 0)": api.ErrName,
	})
}

// P16.1: all kids first, in order; then the kinds.
func TestFirstError(t *testing.T) {
	wanted := map[string]api.Errno{"-(1 / 0)": api.ErrDiv, "not z": api.ErrName, "len(num('x'))": api.ErrConv, "str(z)": api.ErrName, "num(len & len)": api.ErrLong}
	bad := map[string]api.Errno{"z": api.ErrName, "(1 / 0)": api.ErrDiv, "num('x')": api.ErrConv, "(len & len)": api.ErrLong, "(-low)": api.ErrOver, "(a + t)": api.ErrType}
	for x, first := range bad {
		for y := range bad {
			for _, mark := range strings.Fields("= != < <= > >= + - & * / % or and") {
				wanted[x+" "+mark+" "+y] = first
			}
			for _, name := range []string{"left", "right", "nvl"} {
				wanted[name+"("+x+", "+y+")"] = first
			}
			wanted["if("+x+", "+y+", 1)"] = first
		}
		for _, other := range []string{"a", "t", "p", "null"} {
			for _, mark := range strings.Fields("= != < <= > >= + - & * / %") {
				wanted[other+" "+mark+" "+x] = first
				wanted[x+" "+mark+" "+other] = first
			}
			wanted["left("+other+", "+x+")"] = first
			wanted["right("+other+", "+x+")"] = first
		}
	}
	failing(t, wanted)
}

// P16.1: kinds that don't go, of all pairs.
func TestKinds(t *testing.T) {
	wanted := map[string]api.Errno{}
	leaf := map[byte]string{'i': "a", 't': "t", 'b': "p"}
	for k, x := range leaf {
		for name, asked := range map[string]byte{"len": 't', "num": 't', "str": 'i', "-": 'i', "not ": 'b'} {
			if asked != k {
				wanted[name+"("+x+")"] = api.ErrType
			}
		}
		for l, y := range leaf {
			both := string([]byte{k, l})
			for _, mark := range strings.Fields("+ - * / %") {
				if both != "ii" {
					wanted[x+mark+y] = api.ErrType
				}
			}
			for _, mark := range strings.Fields("= != < <= > >=") {
				if k != l {
					wanted[x+mark+y] = api.ErrType
				}
			}
			if both != "tt" {
				wanted[x+"&"+y] = api.ErrType
			}
			if both != "ti" {
				wanted["left("+x+","+y+")"] = api.ErrType
				wanted["right("+x+","+y+")"] = api.ErrType
			}
			if both != "bb" && x != "p" {
				wanted[x+" or "+y] = api.ErrType
				wanted[x+" and "+y] = api.ErrType
			}
		}
	}
	failing(t, wanted)
}

// P16.1: Holds is of true alone.
func TestHolds(t *testing.T) {
	for src, want := range map[string]bool{"p": true, "q": false, "null": false, "not p": false, "a = 7": true, "a = 8": false, "n = 7": false, "isnull(n)": true, "nvl(q, true)": true, "nvl(null, null)": false} {
		if b, e := Holds(parsed(t, src), table(), line()); b != want || e != api.OK {
			t.Errorf("%s: %t, error %d", src, b, e)
		}
	}
	for src, want := range map[string]api.Errno{"a": api.ErrType, "1": api.ErrType, "0": api.ErrType, "t": api.ErrType, "''": api.ErrType, "'true'": api.ErrType, "nvl(q, 1)": api.ErrType, "z": api.ErrName, "1 / 0 = 1": api.ErrDiv, "1 / 0": api.ErrDiv, "1 or p": api.ErrType, "num('') = 1": api.ErrConv} {
		if b, e := Holds(parsed(t, src), table(), line()); b || e != want {
			t.Errorf("%s: %t, error %d", src, b, e)
		}
	}
}

// with is line with another value at a place.
func with(i int, v api.Value) []api.Value {
	row := line()
	row[i] = v
	return row
}

// P16.1
func TestRow(t *testing.T) {
	nulls := make([]api.Value, len(table()))
	for i, row := range [][]api.Value{line(), nulls, with(0, value.Int(-1)), with(1, value.Text("")), with(1, value.Text(strings.Repeat("\xff", 200))), with(2, value.Bool(false)), with(3, value.Int(0)), with(4, value.Text("a"))} {
		if !Row(table(), row) {
			t.Errorf("%d: no row", i)
		}
		if v, e := Eval(parsed(t, "1"), table(), row); v != value.Int(1) || e != api.OK {
			t.Errorf("%d: %v, error %d", i, v, e)
		}
	}
	if !Row(nil, nil) || !Row([]api.Col{}, nil) || !Row(nil, []api.Value{}) {
		t.Error("no columns")
	}
	if v, e := Eval(parsed(t, "1 + 1"), nil, nil); v != value.Int(2) || e != api.OK {
		t.Errorf("over no columns: %v, error %d", v, e)
	}
	fails(t, parsed(t, "a"), nil, nil, api.ErrName)
}

// P16.1
func TestNoRow(t *testing.T) {
	long := append(line(), api.Value{})
	rows := [][]api.Value{nil, {}, line()[:1], line()[:7], long, slices.Repeat(line(), 2)}
	for i, l := range [][]api.Value{
		{value.Text("7"), value.Bool(true), {Kind: 1, S: "x"}, {Kind: 4}, {Kind: -1}, {N: 7}, {S: "x"}, {Kind: math.MaxInt}, {Kind: 1<<32 + 1}},
		{value.Int(7), value.Bool(true), {Kind: 2, N: 1}, {Kind: 2, S: strings.Repeat("x", 201)}, {Kind: math.MinInt}},
		{value.Int(1), value.Text("true"), {Kind: 3, N: 2}, {Kind: 3, N: -1}, {Kind: 3, N: 1, S: "x"}},
	} {
		for _, v := range l {
			rows = append(rows, with(i, v), with(i+3, v))
		}
	}
	for i, row := range rows {
		if Row(table(), row) {
			t.Errorf("%d: a row", i)
		}
		for _, src := range []string{"1", "a", "z", "true or z", "1 / 0"} {
			fails(t, parsed(t, src), table(), row, api.ErrArg)
		}
	}
}

// P16.1: columns that don't go together have no rows.
func TestWrongColumns(t *testing.T) {
	for i, cols := range [][]api.Col{
		{{}}, {{Name: "a"}}, {{Kind: 1}}, {{Name: "a", Kind: 4}}, {{Name: "a", Kind: -1}}, {{Name: "A", Kind: 1}}, {{Name: "int", Kind: 1}}, {{Name: "abcdefghijklmnopq", Kind: 1}},
		{{Name: "a", Kind: 1}, {Name: "a", Kind: 1}}, {{Name: "a", Kind: 1}, {Name: "b", Kind: 2}, {Name: "a", Kind: 3}}, {{Name: "a", Kind: 1}, {}},
	} {
		for _, row := range [][]api.Value{make([]api.Value, len(cols)), nil, line()[:len(cols)]} {
			if Row(cols, row) {
				t.Errorf("%d: a row", i)
			}
			for _, src := range []string{"1", "a", "z", "1 / 0"} {
				fails(t, parsed(t, src), cols, row, api.ErrArg)
			}
		}
	}
}

func neg(x api.Expr) api.Expr {
	return api.Expr{Op: api.OpNeg, Kids: []api.Expr{x}}
}

func pair(of string, x, y api.Expr) api.Expr {
	if expr.Arity(of) == 2 {
		return api.Expr{Op: api.OpCall, Text: of, Kids: []api.Expr{x, y}}
	}
	return api.Expr{Op: api.OpBin, Text: of, Kids: []api.Expr{x, y}}
}

// P16.1: trees that aren't right, even in places that aren't reckoned.
func TestWrongTrees(t *testing.T) {
	one, yes := api.Expr{Op: 1, Val: value.Int(1)}, api.Expr{Op: 1, Val: value.Bool(true)}
	loop, deep, wide := neg(one), one, one
	loop.Kids[0] = loop
	for range 100000 {
		deep = neg(deep)
	}
	for range 90 {
		wide = pair("+", wide, wide)
	}
	for _, x := range []api.Expr{
		{}, {Op: 7}, {Op: -1}, {Op: math.MaxInt}, {Op: math.MinInt}, {Op: 1, Val: value.Int(-1)}, {Op: 1, Val: api.Value{Kind: 4}}, {Op: 1, Val: api.Value{Kind: 3, N: 2}}, {Op: 1, Val: api.Value{Kind: 2, S: strings.Repeat("x", 201)}}, {Op: 1, Text: "a"}, {Op: 1, Kids: []api.Expr{one}},
		{Op: 2}, {Op: 2, Text: "int"}, {Op: 2, Text: "A"}, {Op: 3}, {Op: 4}, {Op: 3, Kids: []api.Expr{one, one}}, {Op: 3, Text: "-", Kids: []api.Expr{one}}, {Op: 4, Text: "or", Kids: []api.Expr{one, one}},
		{Op: 5, Text: "+"}, {Op: 5, Text: "+", Kids: []api.Expr{one}}, {Op: 5, Text: "or", Kids: []api.Expr{yes}}, {Op: 5, Text: "", Kids: []api.Expr{one, one}}, {Op: 5, Text: "nvl", Kids: []api.Expr{one, one}}, {Op: 6, Text: "+", Kids: []api.Expr{one, one}}, {Op: 6, Text: "foo", Kids: []api.Expr{one}}, {Op: 6, Text: "if", Kids: []api.Expr{yes, one}}, {Op: 6, Text: "isnull"}, {Op: 6, Text: "nvl", Kids: []api.Expr{one}}, {Op: 6, Text: "left", Kids: []api.Expr{one}},
		loop, deep, wide,
	} {
		for _, y := range []api.Expr{x, neg(x), pair("or", yes, x), pair("nvl", one, x), pair("+", api.Expr{Op: 2, Text: "z"}, x)} {
			fails(t, y, table(), line(), api.ErrArg)
			fails(t, y, nil, nil, api.ErrArg)
			fails(t, y, []api.Col{{}}, nil, api.ErrArg)
		}
	}
}

// P16.1: the greatest trees that are right, and greater ones.
func TestLimits(t *testing.T) {
	x := api.Expr{Op: api.OpName, Text: "a"}
	for depth := 1; depth <= 33; depth++ {
		want := value.Int(7 - int64((depth+1)%2)*14)
		if v, e := Eval(x, table(), line()); depth <= 30 && (v != want || e != api.OK) || depth > 30 && e != api.ErrArg {
			t.Errorf("depth %d: %v, error %d", depth, v, e)
		}
		x = neg(x)
	}
	sum := api.Expr{Op: 1, Val: value.Int(1)}
	for range 7 {
		sum = pair("+", sum, sum)
	}
	for nodes := 255; nodes <= 305; nodes += 5 { // each round has 5 more
		if v, e := Eval(sum, table(), line()); nodes <= 300 && (v != value.Int(128) || e != api.OK) || nodes > 300 && e != api.ErrArg {
			t.Errorf("%d nodes: %v, error %d", nodes, v, e)
		}
		no := api.Expr{Op: 1}
		sum = api.Expr{Op: 6, Text: "if", Kids: []api.Expr{no, neg(neg(no)), sum}}
	}
}

// P16.1: the chapter names no most columns.
func TestManyColumns(t *testing.T) {
	var cols []api.Col
	var row []api.Value
	for i := range 20000 {
		cols = append(cols, api.Col{Name: "c" + strconv.Itoa(i), Kind: 1})
		row = append(row, value.Int(int64(i)))
	}
	if v, e := Eval(parsed(t, "c19999 - c1"), cols, row); v != value.Int(19998) || e != api.OK || !Row(cols, row) {
		t.Errorf("%v, error %d", v, e)
	}
	row[19999] = value.Text("")
	if Row(cols, row) {
		t.Error("a row")
	}
	fails(t, parsed(t, "c1"), cols, row, api.ErrArg)
}
