package expr

import (
	"math"
	"strconv"
	"strings"
	"testing"

	"needlebeam/api"
	"needlebeam/lex"
)

func val(n int64) api.Expr {
	return api.Expr{Op: 1, Val: api.Value{Kind: 1, N: n}}
}

func text(s string) api.Expr {
	return api.Expr{Op: 1, Val: api.Value{Kind: 2, S: s}}
}

func truth(n int64) api.Expr {
	return api.Expr{Op: 1, Val: api.Value{Kind: 3, N: n}}
}

func null() api.Expr {
	return api.Expr{Op: 1}
}

func name(s string) api.Expr {
	return api.Expr{Op: 2, Text: s}
}

func neg(x api.Expr) api.Expr {
	return api.Expr{Op: 3, Kids: []api.Expr{x}}
}

func not(x api.Expr) api.Expr {
	return api.Expr{Op: 4, Kids: []api.Expr{x}}
}

func bin(x api.Expr, mark string, y api.Expr) api.Expr {
	return api.Expr{Op: 5, Text: mark, Kids: []api.Expr{x, y}}
}

func call(s string, kids ...api.Expr) api.Expr {
	return api.Expr{Op: 6, Text: s, Kids: kids}
}

// functions are all, with how many each takes.
func functions() map[string]int {
	return map[string]int{"len": 1, "str": 1, "num": 1, "isnull": 1, "nvl": 2, "left": 2, "right": 2, "if": 3}
}

// binaries are all marks with two sides, a line a level, the loosest first.
func binaries() [][]string {
	return [][]string{{"or"}, {"and"}, {"=", "!=", "<", "<=", ">", ">="}, {"+", "-", "&"}, {"*", "/", "%"}}
}

// equal holds two trees against each other by all that is in them.
func equal(x, y api.Expr) bool {
	if x.Op != y.Op || x.Text != y.Text || x.Val != y.Val || len(x.Kids) != len(y.Kids) {
		return false
	}
	for i := range x.Kids {
		if !equal(x.Kids[i], y.Kids[i]) {
			return false
		}
	}
	return true
}

// say is a tree with all its brackets, which is read again as it was.
func say(x api.Expr) string {
	var l []string
	for _, k := range x.Kids {
		l = append(l, say(k))
	}
	switch x.Op {
	case 0:
		return "none"
	case 1:
		return sayVal(x.Val)
	case 2:
		return x.Text
	case 3:
		return "(-" + l[0] + ")"
	case 4:
		return "(not " + l[0] + ")"
	case 5:
		return "(" + l[0] + " " + x.Text + " " + l[1] + ")"
	}
	return x.Text + "(" + strings.Join(l, ", ") + ")"
}

func sayVal(v api.Value) string {
	switch v.Kind {
	case 1:
		return strconv.FormatInt(v.N, 10)
	case 2:
		return "'" + strings.ReplaceAll(v.S, "'", "''") + "'"
	case 3:
		return strconv.FormatBool(v.N == 1)
	}
	return "null"
}

// parses says that a source has that tree, and that At tells the place of its end.
func parses(t *testing.T, src string, want api.Expr) {
	t.Helper()
	x, f := Parse(src)
	if f != (api.Fault{}) || !equal(x, want) || !Right(x) {
		t.Errorf("%.300q: %s, %v; asked for %s", src, say(x), f, say(want))
		return
	}
	l, _ := lex.Lex(src)
	if x, i, f := At(l, 0); f != (api.Fault{}) || i != len(l)-1 || !equal(x, want) {
		t.Errorf("%.300q: at: %s, %d, %v", src, say(x), i, f)
	}
}

// wrong says that a source has that fault.
func wrong(t *testing.T, src string, code api.Errno, at int) {
	t.Helper()
	if x, f := Parse(src); f != (api.Fault{Code: code, At: at}) || !equal(x, api.Expr{}) {
		t.Errorf("%.300q: %s, %v; asked for error %d at %d", src, say(x), f, code, at)
	}
}

// words are a source's.
func words(t *testing.T, src string) []api.Tok {
	t.Helper()
	l, f := lex.Lex(src)
	if f.Code != api.OK {
		t.Fatalf("%.300q: %v", src, f)
	}
	return l
}

// sum is so many ones, added: a tree as deep as they are many.
func sum(n int) string {
	return "1" + strings.Repeat("+1", n-1)
}

// P13.2
func TestLeaves(t *testing.T) {
	long := strings.Repeat("x", 200)
	for src, want := range map[string]api.Expr{
		"a": name("a"), "b_2": name("b_2"), "abcdefghijklmnop": name("abcdefghijklmnop"),
		"0": val(0), "7": val(7), "9223372036854775807": val(math.MaxInt64),
		"''": text(""), "'a'": text("a"), "'It''s'": text("It's"), "'+'": text("+"), "'null'": text("null"), "'" + long + "'": text(long),
		"true": truth(1), "false": truth(0), "null": null(),
		"len": name("len"), "if": name("if"), "num": name("num"), "left": name("left"), // with no bracket behind
		" \n(a)# b": name("a"), "((('a')))": text("a"), "(((null)))": null(),
	} {
		parses(t, src, want)
	}
}

// P13.2
func TestMarks(t *testing.T) {
	a, b := name("a"), name("b")
	for _, level := range binaries() {
		for _, m := range level {
			parses(t, "a "+m+" b", bin(a, m, b))
			parses(t, "(a)\t"+m+"\n(b)", bin(a, m, b))
		}
	}
	parses(t, "-a", neg(a))
	parses(t, "--a", neg(neg(a)))
	parses(t, "not a", not(a))
	parses(t, "not not(a)", not(not(a)))
	parses(t, "a--b", bin(a, "-", neg(b)))
	parses(t, "a---b", bin(a, "-", neg(neg(b))))
}

// P13.2: of all pairs of marks.
func TestLevels(t *testing.T) {
	a, b, c := name("a"), name("b"), name("c")
	for i, first := range binaries() {
		for j, second := range binaries() {
			for _, m := range first {
				for _, n := range second {
					src := "a " + m + " b " + n + " c"
					switch {
					case i == 2 && j == 2:
						wrong(t, src, api.ErrForm, len("a "+m+" b "))
						parses(t, "(a "+m+" b) "+n+" c", bin(bin(a, m, b), n, c))
					case i < j:
						parses(t, src, bin(a, m, bin(b, n, c)))
						parses(t, "(a "+m+" b) "+n+" c", bin(bin(a, m, b), n, c))
					default:
						parses(t, src, bin(bin(a, m, b), n, c))
					}
					parses(t, "a "+m+" (b "+n+" c)", bin(a, m, bin(b, n, c)))
				}
			}
		}
	}
}

// P13.2: signs ahead of one, with marks of all levels behind and ahead.
func TestSigns(t *testing.T) {
	a, b := name("a"), name("b")
	for i, level := range binaries() {
		for _, m := range level {
			parses(t, "-a "+m+" b", bin(neg(a), m, b))
			parses(t, "a "+m+" -b", bin(a, m, neg(b)))
			parses(t, "-(a "+m+" b)", neg(bin(a, m, b)))
			parses(t, "not (a "+m+" b)", not(bin(a, m, b)))
			parses(t, "a "+m+" (not b)", bin(a, m, not(b)))
			if i < 2 {
				parses(t, "not a "+m+" b", bin(not(a), m, b))
				parses(t, "a "+m+" not b", bin(a, m, not(b)))
			} else {
				parses(t, "not a "+m+" b", not(bin(a, m, b)))
				wrong(t, "a "+m+" not b", api.ErrForm, len("a "+m+" "))
			}
		}
	}
	parses(t, "not -a", not(neg(a)))
	parses(t, "-(not a)", neg(not(a)))
	wrong(t, "-not a", api.ErrForm, 1)
}

// P13.2
func TestCalls(t *testing.T) {
	a, b, c := name("a"), name("b"), name("c")
	for f, n := range functions() {
		kids, parts := []api.Expr{a, bin(b, "or", c), not(null())}[:n], []string{"a", "b or c", "not null"}[:n]
		parses(t, f+"("+strings.Join(parts, ",")+")", call(f, kids...))
		parses(t, f+" ( "+strings.Join(parts, " , ")+" ) ", call(f, kids...))
		parses(t, "-"+f+"("+strings.Join(parts, ",")+") * "+f, bin(neg(call(f, kids...)), "*", name(f)))
		for _, m := range []int{0, 1, 2, 3, 4, 50} {
			inside := "a" + strings.Repeat(", a", max(0, m-1))
			src := " " + f + "(" + inside
			switch {
			case m == 0:
				wrong(t, " "+f+"( )", api.ErrForm, len(f)+3)
			case m != n:
				wrong(t, src+")", api.ErrForm, 1)
				wrong(t, src+") + (", api.ErrForm, 1)
				wrong(t, "(b = 'c' & "+src+") = d = e", api.ErrForm, 12)
			}
			wrong(t, src, api.ErrForm, len(src)) // its ) isn't read
			if m != 0 {
				wrong(t, src+" b)", api.ErrForm, len(src)+1)
				wrong(t, src+",)", api.ErrForm, len(src)+1)
			}
		}
	}
	parses(t, "if(len(str(a)) = 1, nvl(b, -1), left('x', 2) & right(c, num('3')))", call("if",
		bin(call("len", call("str", a)), "=", val(1)), call("nvl", b, neg(val(1))), bin(call("left", text("x"), val(2)), "&", call("right", c, call("num", text("3"))))))
}

// P13.1
func TestNoSuchFunction(t *testing.T) {
	for _, f := range []string{"foo", "a", "lens", "le", "abs", "l", "if_", "isnul"} {
		wrong(t, f+"(a)", api.ErrName, 0)
		wrong(t, " "+f+" (", api.ErrName, 1)
		wrong(t, " "+f+" #\n()", api.ErrName, 1)
		wrong(t, "a + "+f+"(1 +", api.ErrName, 4)
		wrong(t, f+"(g(1), $", api.ErrText, len(f)+7)
		wrong(t, "len("+f+"(a), b)", api.ErrName, 4)
		wrong(t, "len(a, "+f+"(a))", api.ErrName, 7)
		wrong(t, f+"(len(a, b))", api.ErrName, 0)
		wrong(t, f+")", api.ErrForm, len(f))
	}
	for _, w := range []string{"int", "text", "bool", "add", "limit", "or", "and", "back"} {
		wrong(t, w+"(a)", api.ErrForm, 0)
	}
	wrong(t, "true(a)", api.ErrForm, 4)
	wrong(t, "1(a)", api.ErrForm, 1)
	wrong(t, "'len'(a)", api.ErrForm, 5)
	wrong(t, "(len)(a)", api.ErrForm, 5)
	wrong(t, "a len(a)", api.ErrForm, 2)
	wrong(t, "a foo(a)", api.ErrForm, 2)
}

// P13.1, P13.2
func TestForm(t *testing.T) {
	for src, at := range map[string]int{
		"": 0, "  ": 2, "# a": 3, "a b": 2, "a 1": 2, "1 2": 2, "'a' 'b'": 4, "(a) (b)": 4,
		"+": 0, "1 +": 3, "1 + # b": 7, "1 + + 2": 4, "* 1": 0, "a = b = c": 6, "a < b >= c": 6, "(a = b = c)": 7, "a = b and c = d = e": 16,
		"a and": 5, "and a": 0, "a or or b": 5, "a not b": 2, "not": 3, "- ": 2, "a not": 2, "a = not b": 4, "- not a": 2,
		"(": 1, ")": 0, "()": 1, "(a": 2, "(a))": 3, "(a, b)": 2, "a, b": 1, "a;": 1, "a : b": 2, "((a) b)": 5,
		"int": 0, "text": 0, "select": 0, "a where b": 2, "a + limit": 4, "'x' & add": 6, "len(a;": 5, "nvl(a, , b)": 7, "nvl(, a)": 4,
		"a '+' b": 2, "a 'or' b": 2, "'(' a )": 4, "(a ')'": 3, "'not' a": 6, "'-' 1": 4, "len '(' a)": 4, "nvl(a ',' b)": 6,
	} {
		wrong(t, src, api.ErrForm, at)
	}
}

// P13.2: the first that holds is told, lex's ahead of all.
func TestFaultsOfWords(t *testing.T) {
	long := strings.Repeat("a+", 2000) + "a"
	wrong(t, long, api.ErrLong, 0)
	wrong(t, strings.Repeat(" ", 4001), api.ErrLong, 0)
	wrong(t, "a b $", api.ErrText, 4)
	wrong(t, ") foo( 007", api.ErrText, 7)
	wrong(t, strings.Repeat("(", 40)+"9223372036854775808", api.ErrOver, 40)
	wrong(t, "abcdefghijklmnopq(", api.ErrLong, 0)
	wrong(t, "a + 'x", api.ErrText, 4)
	wrong(t, "-9223372036854775808", api.ErrOver, 1)
	parses(t, "a"+strings.Repeat(" ", 3999), name("a"))
}

// P13.1: of each that nests.
func TestNested(t *testing.T) {
	for open, at := range map[string][]int{ // at which bytes of it something begins that isn't over
		"(": {0}, "-": {0}, "not ": {0}, "len(": {3}, "len (": {4}, "nvl(1, ": {3}, "if(a, b, ": {2},
		"-(": {0, 1}, "not (": {0, 4}, "(not ": {0, 1}, "-len(": {0, 4}, "--(": {0, 1, 2},
		"a = (": {4}, "1 + 2 * (": {8}, "not a = (": {0, 8}, "a or not (": {5, 9},
	} {
		src, opened := "", []int{}
		for len(opened) <= 30 {
			for _, i := range at {
				opened = append(opened, len(src)+i)
			}
			src += open
		}
		wrong(t, src, api.ErrDeep, opened[30])
		wrong(t, src+"1 $", api.ErrText, len(src)+2)
		tooDeepBehind(t, strings.Repeat(open, 30/len(at)))
	}
}

// tooDeepBehind says that nothing more may be nested behind that, while it is
// right by itself.
func tooDeepBehind(t *testing.T, src string) {
	t.Helper()
	wrong(t, src, api.ErrForm, len(src))
	tells(t, src+"a ")
	wrong(t, src+"(", api.ErrDeep, len(src))
	wrong(t, src+"-1", api.ErrDeep, len(src))
	wrong(t, src+"len (", api.ErrDeep, len(src)+4)
	tells(t, src+"len ")
	wrong(t, src+"foo(", api.ErrName, len(src))
}

// P13.1: what is over isn't nested any more.
func TestNestedBehindOthers(t *testing.T) {
	for _, over := range []string{"(1) + ", "-1 - ", "--a = ", "len(-a) * ", "nvl((a), -b) - ", "not not a and ", "-a or ", "(not a or (b)) = ", "a - -b + "} {
		tooDeepBehind(t, over+strings.Repeat("(", 30))
		tooDeepBehind(t, strings.Repeat("(", 7)+over+strings.Repeat("len(", 23))
		tooDeepBehind(t, strings.Repeat("nvl(1, ", 10)+over+strings.Repeat("-", 20))
	}
	for _, open := range []string{"not a = ", "-", "not b & c < ", "not not "} { // not takes all up to and, or
		signs := strings.Count(open, "not") + strings.Count(open, "-")
		tooDeepBehind(t, open+strings.Repeat("(", 30-signs))
	}
	tooDeepBehind(t, "nvl(not a, "+strings.Repeat("(", 29))
	tooDeepBehind(t, "(not a and b or "+strings.Repeat("(", 29))
}

// P13.1: brackets are no nodes, so that they alone may be as many as nest.
func TestManyBrackets(t *testing.T) {
	parses(t, strings.Repeat("(", 30)+"a"+strings.Repeat(")", 30), name("a"))
	wrong(t, strings.Repeat("(", 31)+"a"+strings.Repeat(")", 31), api.ErrDeep, 30)
	parses(t, "-"+strings.Repeat("(", 29)+"a"+strings.Repeat(")", 29), neg(name("a")))
	many := strings.Repeat("(", 30) + "a" + strings.Repeat(")", 30)
	parses(t, many+" + "+many, bin(name("a"), "+", name("a")))
	wrong(t, "-"+many+"$", api.ErrText, 62)
	wrong(t, "len("+many+")", api.ErrDeep, 33)
}

// P13.1: in the end, at the first word, depth ahead of count.
func TestTooDeep(t *testing.T) {
	deep := func(src string, at int) {
		t.Helper()
		wrong(t, src, api.ErrDeep, at)
	}
	for src, want := range map[string]int{
		sum(30): 30, strings.Repeat("-", 29) + "1": 30, strings.Repeat("not ", 29) + "p": 30,
		strings.Repeat("str(", 29) + "1" + strings.Repeat(")", 29): 30, strings.Repeat("1+(", 29) + "1" + strings.Repeat(")", 29): 30,
		"a=" + sum(29): 30, "-(" + sum(29) + ")": 30, "nvl(1, (" + sum(29) + "))": 30,
	} {
		x, f := Parse(src)
		if f != (api.Fault{}) || Depth(x) != want || !Right(x) {
			t.Errorf("%s: depth %d, %v", src, Depth(x), f)
		}
	}
	deep(sum(31), 0)
	deep(" "+sum(31), 1)
	deep("#\n "+sum(31)+" b", 3)
	deep(sum(31)+")", 0)
	deep(strings.Repeat("-", 30)+"1", 0)
	deep(" "+strings.Repeat("not ", 30)+"p", 1)
	deep("  "+strings.Repeat("str(", 30)+"1"+strings.Repeat(")", 30), 2)
	deep(strings.Repeat("1+(", 30)+"1"+strings.Repeat(")", 30), 0)
	deep("a="+sum(30), 0)
	deep("nvl(1, ("+sum(30)+"))", 0)
	deep(sum(1000), 0)
	wrong(t, sum(31)+" + ", api.ErrForm, 64)
	wrong(t, sum(31)+" + foo(1)", api.ErrName, 64)
	wrong(t, sum(31)+" + len(1, 1)", api.ErrForm, 64)
	wrong(t, sum(31)+" + "+strings.Repeat("(", 31), api.ErrDeep, 94)
}

// wide are so many groups of 15 ones, added: 30 nodes each, less one in all.
func wide(groups int) string {
	return "(" + sum(15) + ")" + strings.Repeat("+("+sum(15)+")", groups-1)
}

// P13.1
func TestTooMany(t *testing.T) {
	for src, want := range map[string]int{wide(10): 299, "-(" + wide(10) + ")": 300, "len(" + wide(10) + ")": 300, "if(" + wide(9) + ", " + sum(15) + ", 1)": 300} {
		x, f := Parse(src)
		if f != (api.Fault{}) || Count(x) != want || !Right(x) {
			t.Errorf("%s: %d nodes, %v", src, Count(x), f)
		}
	}
	wrong(t, wide(10)+"+1", api.ErrLong, 0)
	wrong(t, " --("+wide(10)+")", api.ErrLong, 1)
	wrong(t, "\nif("+wide(9)+", "+sum(15)+", -1)", api.ErrLong, 1)
	wrong(t, wide(10)+"+1)", api.ErrLong, 0)
	wrong(t, wide(10)+"+1 b", api.ErrLong, 0)
	wrong(t, wide(10)+"+1+", api.ErrForm, len(wide(10))+3)
	wrong(t, wide(11)+"+("+sum(29)+")", api.ErrLong, 0)
	wrong(t, wide(11)+"+("+sum(30)+")", api.ErrDeep, 0)
	wrong(t, wide(28)+"+1", api.ErrDeep, 0)
}

// P13.1: as far as it goes.
func TestAt(t *testing.T) {
	l := words(t, "x; a + b, (c = d) = e = f, len(a) b, not 1")
	for _, c := range []struct {
		at, end int
		want    string
	}{
		{0, 1, "x"}, {2, 5, "(a + b)"}, {4, 5, "b"}, {6, 13, "((c = d) = e)"}, {7, 10, "(c = d)"}, {9, 10, "d"}, {12, 15, "(e = f)"},
		{16, 20, "len(a)"}, {18, 19, "a"}, {20, 21, "b"}, {22, 24, "(not 1)"}, {23, 24, "1"},
	} {
		if x, i, f := At(l, c.at); f != (api.Fault{}) || i != c.end || say(x) != c.want {
			t.Errorf("at %d: %s, %d, %v", c.at, say(x), i, f)
		}
	}
	for at, want := range map[int]api.Fault{
		1: {Code: api.ErrForm, At: 1}, 3: {Code: api.ErrForm, At: 5}, 5: {Code: api.ErrForm, At: 8}, 8: {Code: api.ErrForm, At: 13},
		24: {Code: api.ErrForm, At: 42}, 25: {Code: api.ErrForm}, -1: {Code: api.ErrForm}, 26: {Code: api.ErrForm},
		math.MaxInt: {Code: api.ErrForm}, math.MinInt: {Code: api.ErrForm},
	} {
		if x, i, f := At(l, at); f != want || i != 0 || !equal(x, api.Expr{}) {
			t.Errorf("at %d: %s, %d, %v", at, say(x), i, f)
		}
	}
	l = words(t, "= "+sum(31)+", "+wide(10)+"+1 foo(a len(a, b)")
	for at, want := range map[int]api.Fault{
		1: {Code: api.ErrDeep, At: 2}, 63: {Code: api.ErrLong, At: 65}, len(l) - 10: {Code: api.ErrName, At: 387}, len(l) - 7: {Code: api.ErrForm, At: 393},
	} {
		if x, i, f := At(l, at); f != want || i != 0 || !equal(x, api.Expr{}) {
			t.Errorf("at %d: %s, %d, %v", at, say(x), i, f)
		}
	}
}

// P13.1: of lists that lex doesn't tell.
func TestAtOfOddWords(t *testing.T) {
	nm, mark, word := func(s string, at int) api.Tok { return api.Tok{Kind: 1, Text: s, At: at} },
		func(s string, at int) api.Tok { return api.Tok{Kind: 5, Text: s, At: at} },
		func(s string, at int) api.Tok { return api.Tok{Kind: 2, Text: s, At: at} }
	for _, c := range []struct {
		l    []api.Tok
		code api.Errno
		at   int
	}{
		{nil, 8, 0}, {[]api.Tok{}, 8, 0}, {[]api.Tok{{}}, 8, 0}, {[]api.Tok{{At: 7}}, 8, 7},
		{[]api.Tok{nm("a", 3), mark("+", 5)}, 8, 0}, {[]api.Tok{nm("len", 3), mark("(", 6)}, 8, 0}, {[]api.Tok{mark("(", 6), nm("a", 7)}, 8, 0},
		{[]api.Tok{nm("A b", 3)}, 8, 3}, {[]api.Tok{nm("", 3)}, 8, 3}, {[]api.Tok{nm("int", 3)}, 8, 3}, {[]api.Tok{nm("A", 3), mark("(", 4)}, 9, 3},
		{[]api.Tok{{Kind: 3, Text: "x", At: 2}}, 8, 2}, {[]api.Tok{{Kind: 3, Text: "-5", At: 2}}, 8, 2}, {[]api.Tok{{Kind: 3, Text: "007", At: 2}}, 8, 2},
		{[]api.Tok{{Kind: 3, At: 2}}, 8, 2}, {[]api.Tok{{Kind: 3, Text: strings.Repeat("9", 30), At: 2}}, 8, 2},
		{[]api.Tok{{Kind: 4, Text: strings.Repeat("x", 201), At: 2}}, 8, 2}, {[]api.Tok{{Kind: 6, Text: "a", At: 2}}, 8, 2}, {[]api.Tok{{Kind: -1, Text: "(", At: 2}}, 8, 2},
		{[]api.Tok{word("", 1)}, 8, 1}, {[]api.Tok{word("$", 1)}, 8, 1}, {[]api.Tok{mark("$", 1)}, 8, 1}, {[]api.Tok{mark("a", 1)}, 8, 1}, {[]api.Tok{mark("1", 1)}, 8, 1},
	} {
		if x, i, f := At(c.l, 0); f != (api.Fault{Code: c.code, At: c.at}) || i != 0 || !equal(x, api.Expr{}) {
			t.Errorf("%v: %s, %d, %v", c.l, say(x), i, f)
		}
	}
	if x, i, f := At([]api.Tok{nm("a", 3), mark("+", 4), nm("b", 5)}, 0); f != (api.Fault{}) || i != 3 || say(x) != "(a + b)" {
		t.Error(say(x), i, f)
	}
	var long []api.Tok
	for range 300000 {
		long = append(long, nm("a", 1), mark("+", 2))
	}
	if x, i, f := At(long, 1); f != (api.Fault{Code: 8, At: 2}) || i != 0 || x.Op != 0 {
		t.Error(i, f)
	}
	if x, i, f := At(long[:len(long)-1], 2); f != (api.Fault{Code: 18, At: 1}) || i != 0 || x.Op != 0 {
		t.Error(i, f)
	}
}
