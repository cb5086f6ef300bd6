package infer

import (
	"fmt"
	"maps"
	"math"
	"slices"
	"strconv"
	"strings"
	"testing"

	"needlebeam/api"
	"needlebeam/expr"
)

func val(n int64) api.Expr {
	return api.Expr{Op: 1, Val: api.Value{Kind: 1, N: n}}
}

func text(s string) api.Expr {
	return api.Expr{Op: 1, Val: api.Value{Kind: 2, S: s}}
}

func truth(n int64) api.Expr {
	return api.Expr{Op: 1, Val: api.Value{Kind: 3, N: n}}
}

func null() api.Expr {
	return api.Expr{Op: 1}
}

func name(s string) api.Expr {
	return api.Expr{Op: 2, Text: s}
}

// node is one of a name that stands in the tables below: neg and not for signs
// ahead of one, else a mark or a function.
func node(of string, kids ...api.Expr) api.Expr {
	switch {
	case of == "neg":
		return api.Expr{Op: 3, Kids: kids}
	case of == "not":
		return api.Expr{Op: 4, Kids: kids}
	case expr.Arity(of) < 0:
		return api.Expr{Op: 5, Text: of, Kids: kids}
	}
	return api.Expr{Op: 6, Text: of, Kids: kids}
}

// readings are all kinds that each node may have, a line each: its kids', and
// behind > its own, as i, t and b.
var readings = allReadings()

func allReadings() map[string][]string {
	l := map[string][]string{
		"neg": {"i>i"}, "not": {"b>b"}, "&": {"tt>t"}, "len": {"t>i"}, "str": {"i>t"}, "num": {"t>i"}, "left": {"ti>t"}, "right": {"ti>t"},
		"isnull": {"i>b", "t>b", "b>b"}, "nvl": {"ii>i", "tt>t", "bb>b"}, "if": {"bii>i", "btt>t", "bbb>b"},
	}
	for _, m := range strings.Fields("or and") {
		l[m] = []string{"bb>b"}
	}
	for _, m := range strings.Fields("= != < <= > >=") {
		l[m] = []string{"ii>b", "tt>b", "bb>b"}
	}
	for _, m := range strings.Fields("+ - * / %") {
		l[m] = []string{"ii>i"}
	}
	return l
}

// nodes are all names of nodes, in one order.
var nodes = slices.Sorted(maps.Keys(readings))

// kids is how many a node takes.
func kids(of string) int {
	return strings.Index(readings[of][0], ">")
}

// letter is a kind's in the readings.
func letter(kind int) byte {
	return "nitb"[kind]
}

// read is the kind of a node over kids of those kinds: null stands for each
// kind, so that it may be read in several ways. Where these don't agree the node
// is null, too.
func read(of string, kinds []int) (int, api.Errno) {
	found := ""
	for _, r := range readings[of] {
		goes := true
		for i, kind := range kinds {
			goes = goes && (kind == 0 || letter(kind) == r[i])
		}
		own := r[len(r)-1:]
		switch {
		case !goes || found == own:
		case found == "":
			found = own
		default:
			found = "n"
		}
	}
	if found == "" {
		return 0, api.ErrType
	}
	return strings.Index("nitb", found), api.OK
}

// readTree is the same of a whole tree.
func readTree(x api.Expr, cols []api.Col) (int, api.Errno) {
	if x.Op == 1 {
		return x.Val.Kind, api.OK
	}
	if x.Op == 2 {
		for _, c := range cols {
			if c.Name == x.Text {
				return c.Kind, api.OK
			}
		}
		return 0, api.ErrName
	}
	of := x.Text
	if x.Op < 5 {
		of = []string{3: "neg", 4: "not"}[x.Op]
	}
	var kinds []int
	for _, k := range x.Kids {
		kind, e := readTree(k, cols)
		if e != api.OK {
			return 0, e
		}
		kinds = append(kinds, kind)
	}
	return read(of, kinds)
}

// table are columns of all kinds.
func table() []api.Col {
	return []api.Col{{Name: "a", Kind: 1}, {Name: "t", Kind: 2}, {Name: "p", Kind: 3}, {Name: "b_2", Kind: 1}, {Name: "len", Kind: 2}, {Name: "abcdefghijklmnop", Kind: 3}}
}

// of are trees of each kind, by their kinds: leaves, and others.
func of() [][]api.Expr {
	return [][]api.Expr{
		{null(), node("nvl", null(), null()), node("if", null(), null(), null())},
		{val(0), val(math.MaxInt64), name("a"), name("b_2"), node("neg", null()), node("nvl", null(), name("a"))},
		{text(""), text("12"), name("t"), name("len"), node("str", val(7)), node("if", null(), text("x"), null())},
		{truth(0), truth(1), name("p"), name("abcdefghijklmnop"), node("=", null(), null()), node("isnull", name("t"))},
	}
}

// has says that a tree has that kind.
func has(t *testing.T, x api.Expr, cols []api.Col, want int) {
	t.Helper()
	if k, e := Kind(x, cols); k != want || e != api.OK {
		t.Errorf("%v: %d, error %d; asked for %d", x, k, e, want)
	}
	for kind := -1; kind <= 5; kind++ {
		if Fits(x, cols, kind) != (kind == want || want == 0) {
			t.Errorf("%v: of kind %d, fits %d: %t", x, want, kind, kind != want && want != 0)
		}
	}
}

// wrong says that a tree has that error instead of a kind.
func wrong(t *testing.T, x api.Expr, cols []api.Col, want api.Errno) {
	t.Helper()
	if k, e := Kind(x, cols); k != 0 || e != want {
		t.Errorf("%v: %d, error %d; asked for error %d", x, k, e, want)
	}
	for _, kind := range []int{-1, 0, 1, 2, 3, 4, math.MinInt, math.MaxInt} {
		if Fits(x, cols, kind) {
			t.Errorf("%v: fits %d", x, kind)
		}
	}
}

// tells says that a tree has the kind, or the error, that it should have.
func tells(t *testing.T, x api.Expr, cols []api.Col) {
	t.Helper()
	if k, e := readTree(x, cols); e != api.OK {
		wrong(t, x, cols, e)
	} else {
		has(t, x, cols, k)
	}
}

// parsed is a source's tree.
func parsed(t *testing.T, src string) api.Expr {
	t.Helper()
	x, f := expr.Parse(src)
	if f.Code != api.OK {
		t.Fatalf("%s: %v", src, f)
	}
	return x
}

// P15.1
func TestLeaves(t *testing.T) {
	for kind, l := range of() {
		for _, x := range l {
			has(t, x, table(), kind)
		}
	}
	long := strings.Repeat("\xff", 200)
	has(t, text(long), nil, 2)
	has(t, null(), nil, 0)
	has(t, api.Expr{Op: 1, Kids: []api.Expr{}}, []api.Col{}, 0)
	wrong(t, name("a"), nil, api.ErrName)
	for _, s := range []string{"z", "aa", "b_", "b_3", "lenn", "str", "abcdefghijklmno"} {
		wrong(t, name(s), table(), api.ErrName)
	}
}

// P15.1: the chapter's examples, and others that are easily wrong.
func TestKinds(t *testing.T) {
	for src, want := range map[string]int{
		"len(t) + 1": 1, "nvl(null, 'a')": 2, "nvl('a', null)": 2, "nvl(null, null)": 0, "-null": 1, "not null": 3, "null or null": 3, "null = null": 3,
		"null & null": 2, "null * null": 1, "len(null)": 1, "str(null)": 2, "num(null)": 1, "left(null, null)": 2, "isnull(null)": 3, "isnull(isnull(a))": 3,
		"if(null, null, null)": 0, "if(null, null, t)": 2, "if(p, a, null)": 1, "if(p, null, p)": 3, "if(a = 1, nvl(null, null), 7)": 1,
		"(a = 1) = (t = 'x')": 3, "p < true": 3, "not a < b_2 and p": 3, "nvl(p, a = null)": 3, "left(t & 'x', len(t) - 1) & str(-a)": 2, "len(len)": 1, "len & t": 2,
		"nvl(nvl(null, null), nvl(null, a))": 1, "null = nvl(null, null)": 3, "'a' = null": 3, "if(p, null, null) = t": 3,
	} {
		has(t, parsed(t, src), table(), want)
	}
	for src, want := range map[string]api.Errno{
		"1 = 'a'": api.ErrType, "nvl(1, 'a')": api.ErrType, "if(p, 1, 'a')": api.ErrType, "if(1, 1, 1)": api.ErrType, "if('a', null, null)": api.ErrType, "if(p, p, a)": api.ErrType,
		"a & t": api.ErrType, "t + t": api.ErrType, "p + p": api.ErrType, "a or p": api.ErrType, "p and t": api.ErrType, "not t": api.ErrType, "-p": api.ErrType,
		"left(1, 1)": api.ErrType, "left(t, t)": api.ErrType, "right(p, 1)": api.ErrType, "len(1)": api.ErrType, "str('1')": api.ErrType, "str(true)": api.ErrType, "num(1)": api.ErrType,
		"(null = null) + 1": api.ErrType, "nvl(-null, 'a')": api.ErrType, "isnull(a + t)": api.ErrType, "isnull(z)": api.ErrName, "str(null) = 1": api.ErrType, "(p < p) < 1": api.ErrType,
	} {
		wrong(t, parsed(t, src), table(), want)
	}
}

// all tells each list of as many kinds.
func all(n int) [][]int {
	if n == 0 {
		return [][]int{nil}
	}
	var l [][]int
	for _, kinds := range all(n - 1) {
		for kind := range 4 {
			l = append(l, append(slices.Clone(kinds), kind))
		}
	}
	return l
}

// P15.1: each node over kids of all kinds, of all shapes.
func TestNodes(t *testing.T) {
	if len(nodes) != 24 {
		t.Fatal(len(nodes))
	}
	for _, o := range nodes {
		for _, kinds := range all(kids(o)) {
			for shape := range 6 {
				var l []api.Expr
				for i, kind := range kinds {
					trees := of()[kind]
					l = append(l, trees[(shape+i)%len(trees)])
				}
				x := node(o, l...)
				want, e := read(o, kinds)
				if e != api.OK {
					wrong(t, x, table(), e)
				} else {
					has(t, x, table(), want)
				}
				tells(t, x, table())
			}
		}
	}
}

// P15.1: what is wrong is looked for in the kids first, from the left.
func TestFirstWrong(t *testing.T) {
	for src, want := range map[string]api.Errno{
		"(a + t) + z": api.ErrType, "z + (a + t)": api.ErrName, "t + z": api.ErrName, "z + t": api.ErrName, "-z": api.ErrName, "-(z & 1)": api.ErrName, "(1 & t) = z": api.ErrType,
		"if(1, 2, z)": api.ErrName, "if(1, z, -t)": api.ErrName, "if(1, -t, z)": api.ErrType, "if(-t, z, 1)": api.ErrType, "if(z, -t, 1)": api.ErrName, "if(1, 'a', z)": api.ErrName,
		"nvl(1, nvl(t, z))": api.ErrName, "nvl(len(1), z)": api.ErrType, "false and z": api.ErrName, "true or 1": api.ErrType, "if(true, 1, z)": api.ErrName, "nvl(1, z)": api.ErrName, "left(1, z)": api.ErrName, "left(z, t)": api.ErrName,
	} {
		wrong(t, parsed(t, src), table(), want)
	}
	bad := []api.Expr{name("z"), node("neg", name("t")), node("&", text("x"), name("zz")), node("len", val(1))}
	for _, o := range nodes {
		for i := range kids(o) {
			for _, first := range bad {
				for _, second := range bad {
					l := slices.Repeat([]api.Expr{second}, kids(o))
					for j := range i {
						l[j] = of()[(i+j)%4][0]
					}
					l[i] = first
					_, e := readTree(first, table())
					wrong(t, node(o, l...), table(), e)
				}
			}
		}
	}
}

// P15.1: trees that aren't right.
func TestWrongTrees(t *testing.T) {
	a := name("a")
	loop := node("neg", a)
	loop.Kids[0] = loop
	shared, deep := null(), a
	for range 90 {
		shared = node("nvl", shared, shared)
	}
	for range 100000 {
		deep = node("neg", deep)
	}
	for _, x := range []api.Expr{
		{}, {Op: 7}, {Op: -1}, {Op: math.MaxInt}, {Op: math.MinInt}, val(-1), text(strings.Repeat("x", 201)), truth(2), {Op: 1, Text: "a"}, {Op: 1, Val: api.Value{Kind: 4}}, {Op: 1, Val: api.Value{Kind: -1}}, {Op: 1, Kids: []api.Expr{a}},
		name(""), name("int"), name("A"), name("abcdefghijklmnopq"), {Op: 2, Text: "a", Kids: []api.Expr{a}}, node("neg"), node("not"), node("neg", a, a), node("+"), node("+", a), node("+", a, a, a),
		node("foo", a, a), node("", a, a), node("if", a, a), node("if"), node("nvl", a), node("len"), node("isnull", a, a), {Op: 5, Text: "nvl", Kids: []api.Expr{a, a}}, {Op: 6, Text: "+", Kids: []api.Expr{a, a}}, {Op: 3, Text: "-", Kids: []api.Expr{a}},
		loop, shared, deep, {Op: 6, Text: "if", Kids: make([]api.Expr, 300000)},
	} {
		for _, y := range []api.Expr{x, node("neg", x), node("=", name("z"), x), node("nvl", node("+", text("x"), val(1)), x)} {
			wrong(t, y, table(), api.ErrArg)
			wrong(t, y, nil, api.ErrArg)
			wrong(t, y, []api.Col{{Name: "a"}}, api.ErrArg)
		}
	}
}

// P15.1: the greatest trees that are right, and greater ones.
func TestLimits(t *testing.T) {
	x := name("a")
	for depth := 1; depth <= 40; depth++ {
		if depth <= 30 {
			has(t, x, table(), 1)
			wrong(t, x, nil, api.ErrName)
			wrong(t, x, table()[1:2], api.ErrName)
		} else {
			wrong(t, x, table(), api.ErrArg)
			wrong(t, x, nil, api.ErrArg)
		}
		x = node("neg", x)
	}
	x = val(1)
	for range 7 {
		x = node("*", x, x) // 255 nodes in the end
	}
	for n := 255; n < 320; n += 5 {
		if n <= 300 {
			has(t, x, table(), 1)
		} else {
			wrong(t, x, table(), api.ErrArg)
		}
		x = node("if", null(), node("neg", node("neg", null())), x) // 5 more
	}
}

// lists are columns that don't go together.
func lists() [][]api.Col {
	l := [][]api.Col{{{}}, {{Name: "a"}}, {{Kind: 1}}, {{Name: "a", Kind: 1}, {}}, {{}, {Name: "a", Kind: 1}}}
	for _, kind := range []int{0, 4, 5, -1, -2, math.MinInt, math.MaxInt, 1 << 32, 1<<32 + 1} {
		l = append(l, []api.Col{{Name: "a", Kind: kind}}, []api.Col{{Name: "a", Kind: 1}, {Name: "b", Kind: kind}}, []api.Col{{Name: "b", Kind: kind}, {Name: "a", Kind: 1}})
	}
	for _, s := range []string{"", "A", "1", "_a", "a b", " a", "a ", "a\n", "a#", "'a'", "a-b", "-", "a\x00", "\xff", "\xc3\xa4", "int", "add", "null", "limit", "or", "abcdefghijklmnopq", strings.Repeat("a", 5000), "len(a)"} {
		l = append(l, []api.Col{{Name: s, Kind: 1}}, []api.Col{{Name: "a", Kind: 1}, {Name: s, Kind: 2}}, []api.Col{{Name: s, Kind: 3}, {Name: "a", Kind: 1}})
	}
	for kind := 1; kind <= 3; kind++ {
		l = append(l, []api.Col{{Name: "a", Kind: kind}, {Name: "a", Kind: 1}}, []api.Col{{Name: "a", Kind: 1}, {Name: "b", Kind: kind}, {Name: "a", Kind: kind}}, []api.Col{{Name: "b", Kind: 1}, {Name: "a", Kind: 1}, {Name: "a", Kind: kind}})
	}
	return l
}

// P15.1
func TestColumns(t *testing.T) {
	for _, cols := range [][]api.Col{nil, {}, table(), table()[:1], {{Name: "a", Kind: 1}, {Name: "aa", Kind: 1}, {Name: "a_", Kind: 1}, {Name: "a0", Kind: 1}}, {{Name: "str", Kind: 2}, {Name: "if", Kind: 3}, {Name: "adds", Kind: 1}}} {
		if !Columns(cols) {
			t.Errorf("don't go together: %v", cols)
		}
	}
	for _, cols := range lists() {
		if Columns(cols) {
			t.Errorf("go together: %.200s", fmt.Sprint(cols))
		}
		for _, x := range []api.Expr{null(), val(1), name("a"), name("z"), node("neg", text("x")), {}} {
			wrong(t, x, cols, api.ErrArg)
		}
	}
}

// many are so many columns, of all kinds by turns.
func many(n int) []api.Col {
	var cols []api.Col
	for i := range n {
		cols = append(cols, api.Col{Name: "c" + strconv.Itoa(i), Kind: 1 + i%3})
	}
	return cols
}

// P15.1: the chapter names no most columns.
func TestManyColumns(t *testing.T) {
	cols := many(19999)
	last := len(cols) - 1
	if !Columns(cols) || Find(cols, "c19998") != last {
		t.Error("many")
	}
	x := node("nvl", name("c19998"), name("c0"))
	has(t, x, cols, 1)
	if u := Uses(x, cols); !slices.Equal(u, []int{0, last}) {
		t.Error(u)
	}
	for _, c := range []api.Col{{Name: "c0", Kind: 1}, {Name: "c9999", Kind: 2}, {Name: "c", Kind: 0}, {Name: "int", Kind: 1}} {
		cols[last] = c
		if Columns(cols) {
			t.Error("many, with", c)
		}
		wrong(t, null(), cols, api.ErrArg)
	}
	var sum api.Expr
	for _, c := range cols { // a tree that isn't right has its uses, too
		sum.Kids = append(sum.Kids, name(c.Name))
	}
	if u := Uses(sum, cols); len(u) != len(cols) {
		t.Error(len(u))
	}
}

// P15.1: of all kinds that may be asked for.
func TestFits(t *testing.T) {
	for kind, l := range of() {
		for _, x := range l {
			for _, asked := range []int{-1, 0, 1, 2, 3, 4, math.MinInt, math.MaxInt} {
				if Fits(x, table(), asked) != (asked == kind || kind == 0) {
					t.Errorf("%v fits %d: %t", x, asked, asked != kind && kind != 0)
				}
			}
		}
	}
}

// P15.1: columns needn't go together.
func TestFind(t *testing.T) {
	for i, c := range table() {
		if Find(table(), c.Name) != i {
			t.Error(c, Find(table(), c.Name))
		}
		for _, s := range []string{c.Name + " ", " " + c.Name, strings.ToUpper(c.Name), c.Name + "x", c.Name + "\x00", "z"} {
			if Find(table(), s) != -1 || Find(nil, s) != -1 {
				t.Errorf("%q: %d", s, Find(table(), s))
			}
		}
	}
	odd := []api.Col{{Name: "b", Kind: 9}, {Name: "A b\xff"}, {}, {Name: "b", Kind: 1}, {}, {Name: "int"}}
	for s, want := range map[string]int{"b": 0, "A b\xff": 1, "": 2, "int": 5, "a": -1} {
		if Find(odd, s) != want {
			t.Errorf("%q: %d", s, Find(odd, s))
		}
	}
	if Find(nil, "") != -1 || Find([]api.Col{}, "a") != -1 || Find(table(), "") != -1 {
		t.Error("of nothing")
	}
}

// P15.1
func TestUses(t *testing.T) {
	for src, want := range map[string][]int{
		"1": nil, "z": nil, "a": {0}, "a + a": {0}, "p": {2}, "p and a = 1": {0, 2}, "len(t)": {1}, "len(len)": {4}, "len & t": {1, 4}, "'a' & 't'": nil,
		"if(abcdefghijklmnop, b_2, a)": {0, 3, 5}, "-b_2 * (z - t) + (a = a)": {0, 1, 3}, "nvl(p, nvl(t, nvl(a, null)))": {0, 1, 2}, "not zz or y": nil,
	} {
		if u := Uses(parsed(t, src), table()); !slices.Equal(u, want) {
			t.Errorf("%s: %v", src, u)
		}
		if u := Uses(parsed(t, src), nil); len(u) != 0 {
			t.Errorf("%s: %v of no columns", src, u)
		}
	}
	twice := []api.Col{{Name: "b"}, {Name: "a", Kind: 1}, {Name: "b", Kind: 2}, {Name: "a", Kind: 1}, {Name: "int", Kind: 7}, {}, {}, {Name: "c"}}
	for want, x := range map[string]api.Expr{
		"01": node("+", name("a"), name("b")), "1": node("neg", name("a")), "4": name("int"), "5": name(""), "": {}, "0147": {Op: 9, Text: "c", Kids: []api.Expr{name("c"), {Op: 2, Text: "int", Kids: []api.Expr{name("b"), name("a")}}}},
	} {
		s := ""
		for _, i := range Uses(x, twice) {
			s += strconv.Itoa(i)
		}
		if s != want {
			t.Errorf("%v: %s; asked for %s", x, s, want)
		}
	}
	for _, x := range []api.Expr{{Op: 1, Text: "a"}, {Op: 3, Text: "a"}, {Op: 6, Text: "a"}, {Op: 5, Text: "t"}, text("a")} {
		if u := Uses(x, table()); len(u) != 0 {
			t.Errorf("%v: %v", x, u)
		}
	}
}

// R1: a tree that isn't right may be as deep as the bound lets it.
func TestUsesOfDeepTrees(t *testing.T) {
	x := name("p")
	for range 50000 {
		x = node("+", name("a"), node("neg", x))
	}
	if u := Uses(x, table()); !slices.Equal(u, []int{0, 2}) {
		t.Error(u)
	}
}
