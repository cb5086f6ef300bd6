package show

import (
	"math"
	"strconv"
	"strings"
	"testing"

	"needlebeam/api"
	"needlebeam/expr"
	"needlebeam/lex"
)

func val(n int64) api.Expr {
	return api.Expr{Op: 1, Val: api.Value{Kind: 1, N: n}}
}

func text(s string) api.Expr {
	return api.Expr{Op: 1, Val: api.Value{Kind: 2, S: s}}
}

func truth(n int64) api.Expr {
	return api.Expr{Op: 1, Val: api.Value{Kind: 3, N: n}}
}

func null() api.Expr {
	return api.Expr{Op: 1}
}

func name(s string) api.Expr {
	return api.Expr{Op: 2, Text: s}
}

func neg(x api.Expr) api.Expr {
	return api.Expr{Op: 3, Kids: []api.Expr{x}}
}

func not(x api.Expr) api.Expr {
	return api.Expr{Op: 4, Kids: []api.Expr{x}}
}

func bin(x api.Expr, mark string, y api.Expr) api.Expr {
	return api.Expr{Op: 5, Text: mark, Kids: []api.Expr{x, y}}
}

func call(s string, kids ...api.Expr) api.Expr {
	return api.Expr{Op: 6, Text: s, Kids: kids}
}

// marks are all of nodes with two sides.
func marks() []string {
	return strings.Fields("or and = != < <= > >= + - & * / %")
}

// functions are the names of all, by how many they take.
func functions() [][]string {
	return [][]string{1: {"len", "str", "num", "isnull"}, 2: {"nvl", "left", "right"}, 3: {"if"}}
}

// shapes are a node of each kind and mark, over leaves.
func shapes() []api.Expr {
	a, b := name("a"), name("b")
	l := []api.Expr{val(7), text("x"), truth(1), truth(0), null(), a, name("len"), neg(a), not(a)}
	for _, m := range marks() {
		l = append(l, bin(a, m, b))
	}
	for n, names := range functions() {
		for _, f := range names {
			l = append(l, call(f, []api.Expr{a, b, null()}[:n]...))
		}
	}
	return l
}

// rank is a node's level as the chapter lists them.
func rank(x api.Expr) int {
	switch x.Op {
	case 3:
		return 6
	case 4:
		return 2
	case 5:
		return map[string]int{"or": 0, "and": 1, "=": 3, "!=": 3, "<": 3, "<=": 3, ">": 3, ">=": 3, "+": 4, "-": 4, "&": 4, "*": 5, "/": 5, "%": 5}[x.Text]
	}
	return 7
}

// bracketed says whether brackets stand around a kid, by the chapter's words.
func bracketed(x api.Expr, i int) bool {
	kid := x.Kids[i]
	compares := func(y api.Expr) bool { return y.Op == 5 && strings.ContainsAny(y.Text, "=<>") }
	switch {
	case x.Op == 3:
		return kid.Op == 5 || kid.Op == 4
	case x.Op == 4:
		return kid.Text == "or" || kid.Text == "and"
	case x.Op == 5 && i == 0:
		return rank(kid) < rank(x) || compares(x) && compares(kid)
	case x.Op == 5:
		return rank(kid) <= rank(x)
	}
	return false
}

// say is a tree's print: with brackets around the kids of which that holds.
func say(x api.Expr, around func(api.Expr, int) bool) string {
	var l []string
	for i, kid := range x.Kids {
		s := say(kid, around)
		if around(x, i) {
			s = "(" + s + ")"
		}
		l = append(l, s)
	}
	switch x.Op {
	case 1:
		return sayVal(x.Val)
	case 2:
		return x.Text
	case 3:
		return "-" + l[0]
	case 4:
		return "not " + l[0]
	case 5:
		return l[0] + " " + x.Text + " " + l[1]
	}
	return x.Text + "(" + strings.Join(l, ", ") + ")"
}

func sayVal(v api.Value) string {
	switch v.Kind {
	case 1:
		return strconv.FormatInt(v.N, 10)
	case 2:
		return "'" + strings.ReplaceAll(v.S, "'", "''") + "'"
	case 3:
		return strconv.FormatBool(v.N == 1)
	}
	return "null"
}

// nested is how many brackets, calls and signs stand one in another.
func nested(x api.Expr) int {
	most := 0
	for i, kid := range x.Kids {
		n := nested(kid)
		if bracketed(x, i) {
			n++
		}
		most = max(most, n)
	}
	if x.Op == 3 || x.Op == 4 || x.Op == 6 {
		most++
	}
	return most
}

// prints says that a tree has that print.
func prints(t *testing.T, x api.Expr, want string) {
	t.Helper()
	if s, e := Print(x); s != want || e != api.OK {
		t.Errorf("%q, error %d; asked for %q", s, e, want)
	}
	if s := Short(x, len(want)); s != want {
		t.Errorf("short: %q; asked for %q", s, want)
	}
}

// none says that a tree has that error instead of a print.
func none(t *testing.T, x api.Expr, want api.Errno) {
	t.Helper()
	if s, e := Print(x); s != "" || e != want {
		t.Errorf("%.300q, error %d; asked for error %d", s, e, want)
	}
	for _, most := range []int{math.MinInt, -1, 0, 1, 4000, math.MaxInt} {
		if s := Short(x, most); s != "?" {
			t.Errorf("short: %.300q", s)
		}
	}
}

// P14.1
func TestLeaves(t *testing.T) {
	long := strings.Repeat("\xff", 200)
	for want, x := range map[string]api.Expr{
		"0": val(0), "7": val(7), "9223372036854775807": val(math.MaxInt64),
		"''": text(""), "'a'": text("a"), "'It''s'": text("It's"), "''''": text("'"), "' # '": text(" # "), "'\n'": text("\n"), "'(a'": text("(a"), "'" + long + "'": text(long),
		"true": truth(1), "false": truth(0), "null": null(), "'null'": text("null"), "'1'": text("1"),
		"a": name("a"), "len": name("len"), "b_2": name("b_2"), "abcdefghijklmnop": name("abcdefghijklmnop"),
	} {
		prints(t, x, want)
	}
}

// P14.1
func TestShapes(t *testing.T) {
	a, b, c := name("a"), name("b"), name("c")
	prints(t, neg(a), "-a")
	prints(t, not(a), "not a")
	for _, m := range marks() {
		prints(t, bin(a, m, b), "a "+m+" b")
	}
	for n, names := range functions() {
		for _, f := range names {
			prints(t, call(f, []api.Expr{a, b, c}[:n]...), f+"("+[]string{"", "a", "a, b", "a, b, c"}[n]+")")
		}
	}
}

// P14.1: the chapter's, and others whose brackets are easily wrong.
func TestBrackets(t *testing.T) {
	a, b, c, d := name("a"), name("b"), name("c"), name("d")
	for want, x := range map[string]api.Expr{
		"(a + b) * c": bin(bin(a, "+", b), "*", c), "a + b * c": bin(a, "+", bin(b, "*", c)),
		"a - (b - c)": bin(a, "-", bin(b, "-", c)), "a - b - c": bin(bin(a, "-", b), "-", c), "a & (b + c)": bin(a, "&", bin(b, "+", c)),
		"a / (b * c)": bin(a, "/", bin(b, "*", c)), "a % b * c": bin(bin(a, "%", b), "*", c),
		"a or (b or c)": bin(a, "or", bin(b, "or", c)), "a and b or c and d": bin(bin(a, "and", b), "or", bin(c, "and", d)), "(a or b) and (c or d)": bin(bin(a, "or", b), "and", bin(c, "or", d)),
		"not (a and b)": not(bin(a, "and", b)), "not (a or b)": not(bin(a, "or", b)), "not a and b": bin(not(a), "and", b), "a and not b": bin(a, "and", not(b)), "a or not b or c": bin(bin(a, "or", not(b)), "or", c),
		"not a = b": not(bin(a, "=", b)), "(not a) = b": bin(not(a), "=", b), "a = (not b)": bin(a, "=", not(b)), "(not a) + b": bin(not(a), "+", b), "a * (not b)": bin(a, "*", not(b)),
		"not not a": not(not(a)), "not -a": not(neg(a)), "-(not a)": neg(not(a)), "not a + b": not(bin(a, "+", b)),
		"(a = b) = c": bin(bin(a, "=", b), "=", c), "a = (b = c)": bin(a, "=", bin(b, "=", c)), "(a < b) >= (c != d)": bin(bin(a, "<", b), ">=", bin(c, "!=", d)), "a + b = c * d": bin(bin(a, "+", b), "=", bin(c, "*", d)),
		"-(a + 1)": neg(bin(a, "+", val(1))), "-(a * b)": neg(bin(a, "*", b)), "-(a = b)": neg(bin(a, "=", b)), "-a * b": bin(neg(a), "*", b), "a * -b": bin(a, "*", neg(b)), "a - -b": bin(a, "-", neg(b)),
		"--a": neg(neg(a)), "a - --1": bin(a, "-", neg(neg(val(1)))), "-len(a)": neg(call("len", a)),
		"nvl(a or b, not a)": call("nvl", bin(a, "or", b), not(a)), "if(a = b, -a, if(a, b, c))": call("if", bin(a, "=", b), neg(a), call("if", a, b, c)), "left(a & b, 1) & 'x'": bin(call("left", bin(a, "&", b), val(1)), "&", text("x")),
		"-(-(a + b) * c)": neg(bin(neg(bin(a, "+", b)), "*", c)), "not (not (a or b) and c)": not(bin(not(bin(a, "or", b)), "and", c)),
	} {
		prints(t, x, want)
	}
}

// parents are all nodes that may stand above one, with that one at each place.
func parents(kid api.Expr) []api.Expr {
	a, b := name("p"), name("q")
	l := []api.Expr{neg(kid), not(kid)}
	for _, m := range marks() {
		l = append(l, bin(kid, m, a), bin(a, m, kid))
	}
	for n, names := range functions() {
		for i := range n * len(names) {
			kids := []api.Expr{a, b, a}[:n]
			kids[i%n] = kid
			l = append(l, call(names[i/n], kids...))
		}
	}
	return l
}

// bare are no brackets but those of calls.
func bare(api.Expr, int) bool {
	return false
}

// P14.1: just where the grammar would read another tree without, of each node below each other one.
func TestBracketsOfAllPairs(t *testing.T) {
	for _, kid := range shapes() {
		for _, x := range parents(kid) {
			s := say(x, bare)
			y, f := expr.Parse(s)
			if f.Code == api.OK && expr.Same(x, y) {
				prints(t, x, s)
			} else if s1, e := Print(x); e != api.OK || s1 == s {
				t.Errorf("%q, error %d: read as another tree", s1, e)
			}
			prints(t, x, say(x, bracketed))
		}
	}
}

// P14.1, P14.2: of each node below each other one below each other one.
func TestThreeLevels(t *testing.T) {
	for _, x := range shapes() {
		for _, y := range parents(x) {
			for _, z := range parents(y) {
				prints(t, z, say(z, bracketed))
				read(t, z)
			}
		}
	}
}

// P14.1
func TestLevel(t *testing.T) {
	a := name("a")
	for i, l := range []string{"or", "and", "", "= != < <= > >=", "+ - &", "* / %"} {
		for _, m := range strings.Fields(l) {
			for _, x := range []api.Expr{bin(a, m, a), bin(not(a), m, bin(a, "or", a)), bin(bin(a, "*", a), m, neg(a))} {
				if Level(x) != i {
					t.Errorf("%s: %d", m, Level(x))
				}
			}
		}
	}
	for _, kid := range shapes() {
		if Level(not(kid)) != 2 || Level(neg(kid)) != 6 || Level(call("str", kid)) != 7 {
			t.Error(Level(not(kid)), Level(neg(kid)), Level(call("str", kid)))
		}
	}
	for _, x := range []api.Expr{val(1), text("or"), truth(0), null(), a, name("len"), call("len", a), call("if", a, a, a), call("or", a, a),
		{}, {Op: -1}, {Op: 7}, {Op: math.MaxInt}, {Op: math.MinInt, Text: "or"}, {Text: "and"}, {Op: 1, Text: "or"}, {Op: 2, Text: "="},
		bin(a, "", a), bin(a, "not", a), bin(a, "==", a), bin(a, "OR", a), bin(a, "or ", a), bin(a, "<>", a), bin(a, ",", a)} {
		if Level(x) != 7 {
			t.Errorf("%v: %d", x, Level(x))
		}
	}
}

// P14.1: trees that aren't right.
func TestWrongTrees(t *testing.T) {
	a, b := name("a"), name("b")
	for _, x := range []api.Expr{
		{}, {Op: 7}, {Op: -1}, {Op: math.MaxInt}, val(-1), val(math.MinInt64), text(strings.Repeat("x", 201)), truth(2), {Op: 1, Val: api.Value{N: 1}}, {Op: 1, Val: api.Value{Kind: 4}}, {Op: 1, Text: "a"},
		name(""), name("int"), name("A"), name("a b"), name("abcdefghijklmnopq"), name("a\n"), {Op: 2, Text: "a", Kids: []api.Expr{b}}, {Op: 2, Text: "a", Val: val(1).Val},
		{Op: 3}, {Op: 4}, {Op: 3, Kids: []api.Expr{a, b}}, {Op: 4, Text: "not", Kids: []api.Expr{a}}, {Op: 5, Text: "+"}, {Op: 5, Text: "+", Kids: []api.Expr{a}}, {Op: 5, Text: "or", Kids: []api.Expr{a, b, a}},
		bin(a, "", b), bin(a, "not", b), bin(a, "==", b), bin(a, "in", b), call("foo", a), call("len"), call("len", a, b), call("if", a, b), call("nvl", a), call("", a), {Op: 5, Text: "+", Val: val(1).Val, Kids: []api.Expr{a, b}},
	} {
		none(t, x, api.ErrArg)
		for _, y := range parents(x) {
			none(t, y, api.ErrArg)
		}
	}
	loop := neg(a)
	loop.Kids[0] = loop
	none(t, loop, api.ErrArg)
	shared, deep := a, a
	for range 90 {
		shared = bin(shared, "+", shared)
	}
	none(t, shared, api.ErrArg)
	for range 100000 {
		deep = not(deep)
	}
	none(t, deep, api.ErrArg)
	none(t, api.Expr{Op: 6, Text: "if", Kids: make([]api.Expr, 300000)}, api.ErrArg)
}

// full is a tree of marks of that depth with all nodes that it may have.
func full(depth int, leaf api.Expr) api.Expr {
	if depth == 1 {
		return leaf
	}
	return bin(full(depth-1, leaf), "+", full(depth-1, leaf))
}

// P14.1: of the greatest trees that are right, and greater ones.
func TestLimitsOfTrees(t *testing.T) {
	x := name("a")
	for depth := 1; depth <= 40; depth++ {
		if depth <= 30 {
			prints(t, x, strings.Repeat("-", depth-1)+"a")
		} else {
			none(t, x, api.ErrArg)
		}
		x = neg(x)
	}
	x = full(8, name("a")) // 255 nodes
	for n := 255; n < 310; n += 5 {
		if n <= 300 {
			prints(t, x, say(x, bracketed))
		} else {
			none(t, x, api.ErrArg)
		}
		if n == 300 {
			none(t, not(x), api.ErrArg)
		}
		x = call("if", x, name("b"), neg(neg(name("c")))) // 5 more
	}
}

// long is a tree whose print has so many bytes.
func long(n int) api.Expr {
	x := text("")
	size := 2
	for size+200 <= n {
		x = bin(x, "&", text(strings.Repeat("x", 190)))
		size += 195
	}
	return bin(x, "&", text(strings.Repeat("y", n-size-5)))
}

// P14.1: of 4000 bytes, and of one more.
func TestLongPrints(t *testing.T) {
	for n := 3700; n <= 4200; n++ {
		x := long(n)
		s := say(x, bracketed)
		if len(s) != n {
			t.Fatal(n, len(s))
		}
		if n <= 4000 {
			prints(t, x, s)
		} else {
			none(t, x, api.ErrLong)
		}
	}
	for n := 3980; n <= 4000; n++ { // what stands around counts, too
		for _, x := range parents(long(n)) {
			if s := say(x, bracketed); len(s) <= 4000 {
				prints(t, x, s)
			} else {
				none(t, x, api.ErrLong)
			}
		}
	}
	inside := strings.Repeat("'", 100) // .. and a mark in a text twice
	prints(t, full(5, text(inside[:98])), say(full(5, text(inside[:98])), bracketed))
	none(t, bin(full(5, text(inside)), "&", full(4, text(inside))), api.ErrLong)
	none(t, full(8, text(inside)), api.ErrLong)
	none(t, bin(full(8, text(inside)), "=", name("int")), api.ErrArg) // ahead of ErrLong
}

// P14.1
func TestShort(t *testing.T) {
	for _, x := range shapes() {
		for _, y := range parents(x) {
			s := say(y, bracketed)
			for most := -3; most < len(s)+3; most++ {
				want := s
				if most < len(s) {
					want = s[:max(most, 0)] + "..."
				}
				if got := Short(y, most); got != want {
					t.Errorf("%q to %d: %q", s, most, got)
				}
			}
			if Short(y, math.MinInt) != "..." || Short(y, math.MaxInt) != s {
				t.Errorf("%q: %q, %q", s, Short(y, math.MinInt), Short(y, math.MaxInt))
			}
		}
	}
	if s := Short(text("\xc3\xa4b"), 2); s != "'\xc3..." { // by bytes, not letters
		t.Errorf("%q", s)
	}
	if Short(name("a"), 1) != "a" || Short(name("a"), 0) != "..." {
		t.Error("a")
	}
}

// read says that a print is parsed as the tree was, or nests too deep.
func read(t *testing.T, x api.Expr) {
	t.Helper()
	s, e := Print(x)
	if e != api.OK {
		t.Fatalf("%.300q: error %d", say(x, bracketed), e)
	}
	y, f := expr.Parse(s)
	if nested(x) > 30 {
		if f.Code != api.ErrDeep {
			t.Fatalf("%q: %v, nested %d deep", s, f, nested(x))
		}
		return
	}
	if f.Code != api.OK || !expr.Same(x, y) {
		t.Fatalf("%q: %v, read as another tree", s, f)
	}
}

// without are all texts that a print is without one pair of its brackets.
func without(t *testing.T, s string) []string {
	t.Helper()
	l, f := lex.Lex(s)
	if f.Code != api.OK {
		t.Fatalf("%q: %v", s, f)
	}
	var texts []string
	var open []int
	for i, w := range l {
		switch {
		case w.Kind == api.TokMark && w.Text == "(":
			open = append(open, i)
		case w.Kind == api.TokMark && w.Text == ")":
			from := open[len(open)-1]
			open = open[:len(open)-1]
			if from == 0 || l[from-1].Kind != api.TokName { // else a call's
				texts = append(texts, s[:l[from].At]+" "+s[l[from].At+1:w.At]+" "+s[w.At+1:])
			}
		}
	}
	return texts
}
