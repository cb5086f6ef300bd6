package eval

import (
	"math/big"
	"math/rand"
	"slices"
	"strings"
	"testing"

	"needlebeam/api"
	"needlebeam/expr"
	"needlebeam/infer"
	"needlebeam/value"
)

// asks are the kinds that a node asks of its kids, as i, t and b; a node that
// compares two of one kind as xx.
func asks(x api.Expr) string {
	switch x.Op {
	case api.OpNeg:
		return "i"
	case api.OpNot:
		return "b"
	}
	for kinds, l := range map[string]string{"ii": " + - * / % ", "tt": " & ", "xx": " = != < <= > >= ", "i": " str ", "t": " len num ", "ti": " left right "} {
		if strings.Contains(l, " "+x.Text+" ") {
			return kinds
		}
	}
	return ""
}

// meant is what a tree should come to over values under names.
func meant(x api.Expr, of map[string]api.Value) (api.Value, api.Errno) {
	kid := func(i int) (api.Value, api.Errno) { return meant(x.Kids[i], of) }
	switch {
	case x.Op == api.OpVal:
		return x.Val, 0
	case x.Op == api.OpName:
		if v, found := of[x.Text]; found {
			return v, 0
		}
		return api.Value{}, 9
	case x.Text == "or" || x.Text == "and":
		return meantTruth(x, of)
	case x.Text == "isnull":
		v, e := kid(0)
		if e != 0 {
			return api.Value{}, e
		}
		return api.Value{Kind: 3, N: map[bool]int64{true: 1}[v.Kind == 0]}, 0
	case x.Text == "nvl":
		if v, e := kid(0); e != 0 || v.Kind != 0 {
			return v, e
		}
		return kid(1)
	case x.Text == "if":
		v, e := kid(0)
		if e == 0 && v.Kind != 0 && v.Kind != 3 {
			e = 10
		}
		if e != 0 {
			return api.Value{}, e
		}
		return kid(2 - int(v.N))
	}
	var l []api.Value
	kinds, null := "", false
	for i := range x.Kids {
		v, e := kid(i)
		if e != 0 {
			return api.Value{}, e
		}
		l, kinds, null = append(l, v), kinds+"nitb"[v.Kind:v.Kind+1], null || v.Kind == 0
	}
	if null {
		return api.Value{}, 0
	}
	if want := asks(x); kinds != want && !(want == "xx" && kinds[0] == kinds[1]) {
		return api.Value{}, 10
	}
	return meantOf(x, l)
}

// meantTruth reckons with false as 0, null as 1, true as 2: or is the greatest,
// and the least one.
func meantTruth(x api.Expr, of map[string]api.Value) (api.Value, api.Errno) {
	best, end := 0, 2
	if x.Text == "and" {
		best, end = 2, 0
	}
	for _, k := range x.Kids {
		v, e := meant(k, of)
		if e == 0 && v.Kind != 0 && v.Kind != 3 {
			e = 10
		}
		if e != 0 {
			return api.Value{}, e
		}
		n := int(v.N) * 2
		if v.Kind == 0 {
			n = 1
		}
		if x.Text == "or" {
			best = max(best, n)
		} else {
			best = min(best, n)
		}
		if best == end {
			break
		}
	}
	return []api.Value{{Kind: 3}, {}, {Kind: 3, N: 1}}[best], 0
}

// fitting is a great number as a value.
func fitting(n *big.Int) (api.Value, api.Errno) {
	if !n.IsInt64() {
		return api.Value{}, 4
	}
	return api.Value{Kind: 1, N: n.Int64()}, 0
}

// meantOf is what a node should come to over values of the kinds that it asks.
func meantOf(x api.Expr, l []api.Value) (api.Value, api.Errno) {
	a, s := big.NewInt(l[0].N), l[0].S
	if len(l) == 1 {
		switch {
		case x.Op == api.OpNeg:
			return fitting(a.Neg(a))
		case x.Op == api.OpNot:
			return api.Value{Kind: 3, N: 1 - l[0].N}, 0
		case x.Text == "len":
			return api.Value{Kind: 1, N: int64(len(s))}, 0
		case x.Text == "str":
			return api.Value{Kind: 2, S: a.String()}, 0
		}
		if _, ok := a.SetString(s, 10); !ok || a.String() != s {
			return api.Value{}, 6
		}
		return fitting(a)
	}
	b := big.NewInt(l[1].N)
	switch x.Text {
	case "+":
		return fitting(a.Add(a, b))
	case "-":
		return fitting(a.Sub(a, b))
	case "*":
		return fitting(a.Mul(a, b))
	case "&":
		if len(s)+len(l[1].S) > 200 {
			return api.Value{}, 3
		}
		return api.Value{Kind: 2, S: s + l[1].S}, 0
	case "left":
		for int64(len(s)) > max(l[1].N, 0) {
			s = s[:len(s)-1]
		}
		return api.Value{Kind: 2, S: s}, 0
	case "right":
		for int64(len(s)) > max(l[1].N, 0) {
			s = s[1:]
		}
		return api.Value{Kind: 2, S: s}, 0
	case "/", "%":
		if b.Sign() == 0 {
			return api.Value{}, 5
		}
		quotient, rest := a.QuoRem(a, b, new(big.Int))
		if x.Text == "%" {
			return fitting(rest)
		}
		return fitting(quotient)
	}
	order := a.Cmp(b) + strings.Compare(s, l[1].S) // one of both is 0
	tells := map[int]string{-1: "< <= !=", 0: "= <= >=", 1: "> >= !="}[order]
	return api.Value{Kind: 3, N: map[bool]int64{true: 1}[slices.Contains(strings.Fields(tells), x.Text)]}, 0
}

// drawer draws sources.
type drawer struct {
	*rand.Rand
	free bool // whether kids are of any kind
}

func newDrawer(seed int64, free bool) drawer {
	return drawer{rand.New(rand.NewSource(seed)), free}
}

// patterns are nodes of each kind with their kids' kinds as great letters; Y
// stands for any.
func patterns(kind byte) []string {
	return map[byte][]string{
		'I': {"(-I)", "(I + I)", "(I - I)", "(I * I)", "(I / I)", "(I % I)", "len(T)", "num(T)", "num(str(I))", "nvl(I, I)", "if(B, I, I)"},
		'T': {"(T & T)", "(T & T)", "str(I)", "left(T, I)", "right(T, I)", "nvl(T, T)", "if(B, T, T)"},
		'B': {"(not B)", "(B or B)", "(B and B)", "(I = I)", "(T != T)", "(B < B)", "(I <= I)", "(T > T)", "(I >= I)", "(T < T)", "(B = B)", "isnull(Y)", "nvl(B, B)", "if(B, B, B)"},
	}[kind]
}

func leaves(kind byte) []string {
	return map[byte][]string{
		'I': {"a", "n", "low", "0", "1", "2", "7", "9223372036854775807", "null"},
		'T': {"t", "m", "len", "''", "'12'", "'-7'", "'07'", "'99999999999999999999'", "'It''s'", "null"},
		'B': {"p", "q", "true", "false", "null"},
	}[kind]
}

func (d drawer) one(l []string) string {
	return l[d.Intn(len(l))]
}

// source is one of a tree of that kind, of at most that depth.
func (d drawer) source(kind byte, deep int) string {
	if kind == 'Y' || d.free && d.Intn(5) == 0 {
		kind = "ITB"[d.Intn(3)]
	}
	if d.free && d.Intn(40) == 0 {
		return "z"
	}
	if deep <= 1 || d.Intn(6) == 0 {
		return d.one(leaves(kind))
	}
	var b strings.Builder
	for _, c := range []byte(d.one(patterns(kind))) {
		if c >= 'A' && c <= 'Z' {
			b.WriteString(d.source(c, deep-1))
		} else {
			b.WriteByte(c)
		}
	}
	return b.String()
}

// tree is one that is right.
func (d drawer) tree(kind byte, deep int) api.Expr {
	for {
		if x, f := expr.Parse(d.source(kind, deep)); f.Code == api.OK {
			return x
		}
	}
}

// value is one of a kind, or null.
func (d drawer) value(kind int) api.Value {
	if d.Intn(5) == 0 {
		return api.Value{}
	}
	switch kind {
	case api.KInt:
		return api.Value{Kind: 1, N: int64(d.Uint64()) >> d.Intn(64)}
	case api.KText:
		return api.Value{Kind: 2, S: strings.Repeat(d.one([]string{"x", "1", "-", "\xff", "'"}), d.Intn(201))}
	}
	return api.Value{Kind: 3, N: int64(d.Intn(2))}
}

// row is one over columns.
func (d drawer) row(cols []api.Col) []api.Value {
	var row []api.Value
	for _, c := range cols {
		row = append(row, d.value(c.Kind))
	}
	return row
}

func named(cols []api.Col, row []api.Value) map[string]api.Value {
	of := map[string]api.Value{}
	for i, c := range cols {
		of[c.Name] = row[i]
	}
	return of
}

// P16.1: what trees come to, whatever their kinds are.
func TestTreesOfChance(t *testing.T) {
	seen := map[api.Errno]int{}
	for i := range 60000 {
		d := newDrawer(int64(i), i%3 == 0)
		x := d.tree("ITB"[d.Intn(3)], 1+d.Intn(6))
		row := line()
		if i%2 == 0 {
			row = d.row(table())
		}
		want, wantE := meant(x, named(table(), row))
		v, e := Eval(x, table(), row)
		if v != want || e != wantE {
			t.Fatalf("%v over %v: %v, error %d; asked for %v, error %d", x, row, v, e, want, wantE)
		}
		if !value.Plain(v) {
			t.Fatalf("%v over %v: %v", x, row, v)
		}
		seen[e]++
		if wantE == api.OK && want.Kind != api.KBool && want.Kind != api.KNull {
			wantE = api.ErrType
		}
		if b, e := Holds(x, table(), row); b != (want == api.Value{Kind: 3, N: 1}) || e != wantE {
			t.Fatalf("%v over %v: holds %t, error %d", x, row, b, e)
		}
	}
	for _, e := range []api.Errno{api.OK, api.ErrLong, api.ErrOver, api.ErrDiv, api.ErrConv, api.ErrName, api.ErrType} {
		if seen[e] < 100 {
			t.Errorf("error %d comes up %d times", e, seen[e])
		}
	}
}

// P16.2: trees that have a kind.
func TestKindOfChance(t *testing.T) {
	seen := map[api.Errno]int{}
	for i := range 40000 {
		d := newDrawer(int64(i), i%2 == 0)
		x := d.tree("ITB"[d.Intn(3)], 1+d.Intn(6))
		kind, e := infer.Kind(x, table())
		if e != api.OK {
			continue
		}
		row := d.row(table())
		v, e := Eval(x, table(), row)
		if !slices.Contains([]api.Errno{api.OK, api.ErrOver, api.ErrDiv, api.ErrConv, api.ErrLong}, e) || v.Kind != kind && v.Kind != api.KNull {
			t.Fatalf("%v of kind %d over %v: %v, error %d", x, kind, row, v, e)
		}
		seen[e]++
	}
	if len(seen) != 5 || seen[api.OK] < 1000 {
		t.Error(seen)
	}
}

// P16.2: a tree in a name's place.
func TestPut(t *testing.T) {
	puts := 0
	for i := range 60000 {
		d := newDrawer(int64(i), i%3 == 0)
		cols, row := table(), d.row(table())
		place := d.Intn(len(cols))
		y := d.tree("ITB"[d.Intn(3)], 1+d.Intn(3))
		x := d.tree("ITB"[d.Intn(3)], 1+d.Intn(4))
		z := expr.Put(x, cols[place].Name, y)
		v, e := Eval(y, cols, row)
		if e != api.OK || !expr.Right(z) || expr.Same(x, z) {
			continue
		}
		got, gotE := Eval(z, cols, row)
		row[place] = v
		if v.Kind != api.KNull {
			cols[place].Kind = v.Kind
		}
		if want, wantE := Eval(x, cols, row); got != want || gotE != wantE {
			t.Fatalf("%v, %v in the place of %s: %v, error %d; asked for %v, error %d", x, y, cols[place].Name, got, gotE, want, wantE)
		}
		puts++
	}
	if puts < 3000 {
		t.Error(puts)
	}
}

// What is handed in stays as it is, and one answer is told each time, whatever
// the columns' order is.
func TestStays(t *testing.T) {
	for i := range 500 {
		d := newDrawer(int64(i), i%2 == 0)
		x := d.tree("ITB"[d.Intn(3)], 5)
		before, cols, row := expr.Put(x, "", api.Expr{}), table(), line()
		v, e := Eval(x, cols, row)
		Holds(x, cols, row)
		Row(cols, row)
		if !expr.Same(x, before) || !slices.Equal(cols, table()) || !slices.Equal(row, line()) {
			t.Fatalf("%v: changed", x)
		}
		d.Shuffle(len(cols), func(i, j int) {
			cols[i], cols[j] = cols[j], cols[i]
			row[i], row[j] = row[j], row[i]
		})
		if v1, e1 := Eval(x, cols, row); v != v1 || e != e1 {
			t.Fatalf("%v: %v, error %d; %v, error %d", x, v, e, v1, e1)
		}
	}
}
