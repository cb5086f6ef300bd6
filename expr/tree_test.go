package expr

import (
	"math"
	"math/rand"
	"slices"
	"strconv"
	"strings"
	"testing"

	"needlebeam/api"
)

// all are nodes of all kinds that are right.
func all() []api.Expr {
	a, b := name("a"), name("b_1")
	l := []api.Expr{a, b, name("len"), name("abcdefghijklmnop"), val(0), val(math.MaxInt64), text(""), text("It's"), text(strings.Repeat("\xff", 200)),
		truth(0), truth(1), null(), neg(a), neg(val(1)), neg(neg(null())), not(a), not(not(truth(1))), not(text("x"))}
	for _, level := range binaries() {
		for _, m := range level {
			l = append(l, bin(a, m, b), bin(bin(a, m, val(1)), m, neg(b)))
		}
	}
	for f, n := range functions() {
		l = append(l, call(f, []api.Expr{a, b, null()}[:n]...))
	}
	return l
}

// turned are a node with one thing another than it was, so that it is none.
func turned(x api.Expr) []api.Expr {
	var l []api.Expr
	turn := func(f func(y *api.Expr)) {
		y := x
		y.Kids = slices.Clone(x.Kids)
		f(&y)
		l = append(l, y)
	}
	for _, op := range []int{0, -1, 7, math.MaxInt, math.MinInt} {
		turn(func(y *api.Expr) { y.Op = op })
	}
	for n := range 6 {
		if n != len(x.Kids) {
			turn(func(y *api.Expr) { y.Kids = slices.Repeat([]api.Expr{null()}, n) })
		}
	}
	for i := range x.Kids {
		turn(func(y *api.Expr) { y.Kids[i] = api.Expr{} })
		turn(func(y *api.Expr) { y.Kids[i] = api.Expr{Op: 1, Text: "a"} })
		turn(func(y *api.Expr) { y.Kids[i] = bin(null(), "+", not(name("int"))) })
	}
	for _, s := range []string{"foo", "A", "+ ", "lens", "!", "==", "not", "null", " ", "a b", "(", "<>", "abcdefghijklmnopq", "orr", "IF"} {
		if s != "foo" && s != "lens" && s != "orr" || x.Op != 2 {
			turn(func(y *api.Expr) { y.Text = s })
		}
	}
	if x.Text != "" {
		turn(func(y *api.Expr) { y.Text = "" })
	}
	for _, v := range []api.Value{{N: 1}, {S: "a"}, {Kind: 1, N: -1}, {Kind: 1, N: math.MinInt64}, {Kind: 1, S: "a"}, {Kind: 2, N: 1}, {Kind: 2, S: strings.Repeat("x", 201)}, {Kind: 3, N: 2}, {Kind: 4}, {Kind: -1}} {
		turn(func(y *api.Expr) { y.Val = v })
	}
	if x.Op != 1 {
		for _, v := range []api.Value{{Kind: 1}, {Kind: 1, N: 7}, {Kind: 2}, {Kind: 2, S: "a"}, {Kind: 3}, {Kind: 3, N: 1}} {
			turn(func(y *api.Expr) { y.Val = v })
		}
	}
	return l
}

// P13.3
func TestRight(t *testing.T) {
	for _, x := range all() {
		if !Right(x) {
			t.Errorf("not right: %s", say(x))
		}
		x.Kids = append([]api.Expr{}, x.Kids...) // empty, not nil
		if !Right(x) {
			t.Errorf("not right: %s", say(x))
		}
		for _, y := range turned(x) {
			for _, z := range []api.Expr{y, neg(y), bin(null(), "or", y), call("if", null(), null(), call("nvl", y, null()))} {
				if Right(z) {
					t.Errorf("right: %v", z)
				}
			}
		}
	}
	if Right(api.Expr{}) {
		t.Error("right: nothing")
	}
}

// chain is a tree of so many nodes one below the other.
func chain(n int) api.Expr {
	x := name("a")
	for range n - 1 {
		x = neg(x)
	}
	return x
}

// comb is a tree of so many marks, the first kid of each another one.
func comb(n int) api.Expr {
	x := name("a")
	for i := range n {
		x = bin(x, "+", name("a"+strconv.Itoa(i)))
	}
	return x
}

// full is a tree of marks of that depth with all nodes that it may have.
func full(depth int) api.Expr {
	if depth == 1 {
		return val(1)
	}
	return bin(full(depth-1), "+", full(depth-1))
}

// P13.3: a tree that is right has limits.
func TestLimits(t *testing.T) {
	for n := 1; n < 40; n++ {
		if Right(chain(n)) != (n <= 30) || Right(comb(n-1)) != (n <= 30) || Right(call("nvl", chain(1), chain(n))) != (n < 30) {
			t.Error("deep", n)
		}
	}
	x := full(8) // 255 nodes
	for n := 255; n < 310; n++ {
		if Right(x) != (n <= 300) || Count(x) != n {
			t.Error("nodes", n, Count(x))
		}
		for y := &x; ; { // one more at the least deep leaf of the first 20 levels
			if y.Op == 1 || Depth(*y) == 1 {
				*y = neg(*y)
				break
			}
			least := 0
			for i, k := range y.Kids {
				if i > 0 && Depth(k) < Depth(y.Kids[0]) {
					least = i
				}
			}
			y = &y.Kids[least]
		}
	}
}

// P13.3
func TestDepthAndCount(t *testing.T) {
	for _, c := range []struct {
		x            api.Expr
		depth, count int
	}{
		{api.Expr{}, 1, 1}, {null(), 1, 1}, {name("a"), 1, 1}, {neg(name("a")), 2, 2}, {bin(null(), "+", neg(null())), 3, 4},
		{call("if", null(), null(), neg(neg(null()))), 4, 6}, {call("if", neg(neg(null())), null(), null()), 4, 6}, {call("foo"), 1, 1},
		{api.Expr{Op: 1, Kids: []api.Expr{{}, {Kids: []api.Expr{{}, {}}}}}, 3, 5}, {api.Expr{Op: 2, Text: "a", Kids: []api.Expr{{}}}, 2, 2},
		{chain(30), 30, 30}, {chain(31), 31, 31}, {comb(150), 151, 301}, {full(10), 10, 1023},
		{api.Expr{Kids: make([]api.Expr, 1000)}, 2, 1001}, {api.Expr{Kids: []api.Expr{}}, 1, 1},
	} {
		if Depth(c.x) != c.depth || Count(c.x) != c.count {
			t.Errorf("%s: %d, %d", say(c.x), Depth(c.x), Count(c.x))
		}
	}
}

// P13.3
func TestNames(t *testing.T) {
	for src, want := range map[string]string{
		"1": "", "a": "a", "a + a": "a", "b + a": "b a", "a + t & len(a) = b": "a t b", "if(c, b, a) + b": "c b a", "-c * (a - c)": "c a",
		"len + len(len)": "len", "nvl('a', null)": "", "(a = b) = (c = (d = e))": "a b c d e", "not p and q or not r": "p q r",
	} {
		x, f := Parse(src)
		if f.Code != 0 || !slices.Equal(Names(x), strings.Fields(want)) {
			t.Errorf("%s: %q, %v", src, Names(x), f)
		}
	}
	odd := api.Expr{Op: 1, Text: "x", Kids: []api.Expr{{Op: 2, Text: "b", Kids: []api.Expr{name("a")}}, {Op: 6, Text: "a", Kids: []api.Expr{name("c"), name("b")}}, {Op: 9, Text: "d"}}}
	if l := Names(odd); !slices.Equal(l, []string{"b", "a", "c"}) {
		t.Errorf("%q", l)
	}
	if len(Names(api.Expr{})) != 0 {
		t.Error("names of nothing")
	}
}

// P13.3
func TestPut(t *testing.T) {
	for _, c := range [][4]string{
		{"a", "a", "b + 1", "b + 1"}, {"a", "b", "c", "a"}, {"a + a * b", "a", "c - 1", "(c - 1) + (c - 1) * b"}, {"a + b", "a", "b", "b + b"},
		{"a + b", "a", "a * b", "a * b + b"}, {"a + b", "b", "a", "a + a"}, {"len(a) + len", "len", "x", "len(a) + x"}, {"'a' = a", "a", "'b'", "'a' = 'b'"},
		{"if(a, not a, -a)", "a", "null", "if(null, not null, -null)"}, {"a or b", "", "c", "a or b"}, {"a + 1", "int", "c", "a + 1"}, {"nvl(a, b)", "nvl", "c", "nvl(a, b)"}, {"a + b", "+", "c", "a + b"},
	} {
		x, f := Parse(c[0])
		y, g := Parse(c[2])
		want, h := Parse(c[3])
		if z := Put(x, c[1], y); f.Code != 0 || g.Code != 0 || h.Code != 0 || !equal(z, want) {
			t.Errorf("%q: %s", c, say(z))
		}
	}
	for _, x := range all() {
		for _, y := range append(all(), api.Expr{}, api.Expr{Op: 2, Kids: []api.Expr{name("a")}}) {
			if z := Put(x, "zz", y); !equal(z, x) {
				t.Errorf("%s with %s: %s", say(x), say(y), say(z))
			}
			if z := Put(name("zz"), "zz", y); !equal(z, y) {
				t.Errorf("%v: %v", y, z)
			}
		}
	}
	odd := api.Expr{Op: 2, Text: "a", Val: val(1).Val, Kids: []api.Expr{name("a")}}
	if z := Put(bin(odd, "$", name("a")), "a", null()); !equal(z, bin(null(), "$", null())) {
		t.Errorf("%v", z)
	}
	if z := Put(api.Expr{}, "", odd); !equal(z, api.Expr{}) {
		t.Errorf("%v", z)
	}
	if z := Put(api.Expr{Op: 2}, "", odd); !equal(z, odd) {
		t.Errorf("%v", z)
	}
}

// scratch overwrites all kids of a tree, down to the last.
func scratch(x api.Expr) {
	for i, k := range x.Kids {
		scratch(k)
		x.Kids[i] = text("scratched")
	}
}

// twice is a tree with a place of its own for each node.
func twice(x api.Expr) api.Expr {
	kids := x.Kids
	x.Kids = nil
	for _, k := range kids {
		x.Kids = append(x.Kids, twice(k))
	}
	return x
}

// What is told shares nothing with what was handed in, nor with itself.
func TestApart(t *testing.T) {
	x := bin(call("nvl", name("a"), neg(name("a"))), "+", bin(name("a"), "*", neg(name("b"))))
	y := bin(name("c"), "-", neg(val(1)))
	x1, y1 := twice(x), twice(y)
	z := Put(x, "a", y)
	z1 := twice(z)
	if !equal(x, x1) || !equal(y, y1) {
		t.Error("put turned what was handed in")
	}
	scratch(z.Kids[0].Kids[0])
	if !equal(z.Kids[0].Kids[1], z1.Kids[0].Kids[1]) || !equal(z.Kids[1], z1.Kids[1]) {
		t.Error("what is put twice is shared")
	}
	scratch(z)
	if !equal(x, x1) || !equal(y, y1) {
		t.Error("what put tells is shared")
	}
	z = Put(x, "a", y)
	scratch(x)
	scratch(y)
	if !equal(z, z1) {
		t.Error("put keeps what was handed in")
	}
	l := words(t, "a + b * nvl(c, -1)")
	l1 := slices.Clone(l)
	v, _, _ := At(l, 0)
	w, _, _ := At(l, 0)
	w1 := twice(w)
	scratch(v)
	if !equal(w, w1) || !slices.Equal(l, l1) {
		t.Error("at")
	}
	n, m := Names(w1), Names(w1)
	n[0] = "x"
	if m[0] != "a" {
		t.Error("names")
	}
}

// P13.3
func TestSame(t *testing.T) {
	l := all()
	for i, x := range l {
		for j, y := range l {
			if Same(x, y) != (i == j) || Same(x, twice(y)) != (i == j) {
				t.Errorf("%s and %s: %t", say(x), say(y), Same(x, y))
			}
		}
		for _, y := range turned(x) {
			if Same(x, y) || Same(y, x) || Same(neg(x), neg(y)) || Same(bin(x, "or", null()), bin(y, "or", null())) || !Same(y, twice(y)) {
				t.Errorf("the same: %v and %v", x, y)
			}
		}
	}
	for _, c := range [][2]api.Expr{
		{api.Expr{}, api.Expr{Kids: []api.Expr{}}}, {null(), {Op: 1, Kids: []api.Expr{}}}, {neg(api.Expr{}), neg(api.Expr{Kids: []api.Expr{}})},
	} {
		if !Same(c[0], c[1]) || !Same(c[1], c[0]) {
			t.Errorf("not the same: %v", c)
		}
	}
	if Same(bin(name("a"), "+", name("b")), bin(name("b"), "+", name("a"))) || Same(api.Expr{}, null()) || Same(call("if"), call("if", null())) {
		t.Error("the same")
	}
}

// P13.3
func TestArity(t *testing.T) {
	for f, n := range functions() {
		if Arity(f) != n {
			t.Error(f, Arity(f))
		}
		for _, s := range []string{f + " ", " " + f, strings.ToUpper(f), f + "(", f[1:], f + "\x00", f + f} {
			if Arity(s) != -1 {
				t.Errorf("%q %d", s, Arity(s))
			}
		}
	}
	for _, s := range []string{"", "a", "int", "not", "and", "+", "-", "select", "abs", "\xff", strings.Repeat("len", 1000)} {
		if Arity(s) != -1 {
			t.Errorf("%q %d", s, Arity(s))
		}
	}
}

// P13.4: what is said with all its brackets is parsed as it was.
func TestParsedAsSaid(t *testing.T) {
	r := rand.New(rand.NewSource(16))
	var tree func(deep int) api.Expr
	tree = func(deep int) api.Expr {
		l := all()
		x := twice(l[r.Intn(len(l))])
		if deep > 0 {
			for i := range x.Kids {
				x.Kids[i] = tree(deep - 1)
			}
		}
		return x
	}
	for range 5000 {
		x := tree(r.Intn(5))
		src := say(x)
		depth, count := measure(x)
		if Depth(x) != depth || Count(x) != count || Right(x) != (depth <= 30 && count <= 300) {
			t.Fatalf("%s: %d, %d, %t", src, Depth(x), Count(x), Right(x))
		}
		if Right(x) && len(src) <= 4000 {
			parses(t, src, x)
		}
	}
}

// R1: trees that are none may be as deep as the bound lets them, or wide.
func TestGreatTrees(t *testing.T) {
	const deep = 100000
	for _, x := range []api.Expr{chain(deep), comb(deep - 1)} {
		if Depth(x) != deep || Right(x) || !Same(x, x) || Same(x, neg(x)) {
			t.Error("deep")
		}
		n := Count(x)
		y := Put(x, "a", neg(name("b")))
		if Count(y) != n+1 || Same(x, y) || Depth(x) != deep || Depth(y) != deep+1 {
			t.Error("deep, put")
		}
		if z := Put(y, "b", x); Count(z) != 2*n {
			t.Error("deep, put in what is deep")
		}
		if l := Names(x); len(l) != (n+1)/2 && len(l) != 1 || l[0] != "a" {
			t.Error("deep, names")
		}
	}
	wide := api.Expr{Op: 6, Text: "if", Kids: slices.Repeat([]api.Expr{name("a")}, 300000)}
	if Depth(wide) != 2 || Count(wide) != 300001 || Right(wide) || !Same(wide, Put(wide, "a", name("a"))) || len(Names(wide)) != 1 {
		t.Error("wide")
	}
}

// R1: a tree may have one list of kids in many places, even in itself; that it
// isn't right is found all the same.
func TestTreesOfShares(t *testing.T) {
	x := null()
	for range 80 {
		x = bin(x, "+", x)
	}
	if Right(x) {
		t.Error("2^80 leaves")
	}
	loop := neg(null())
	loop.Kids[0] = loop
	if Right(loop) {
		t.Error("without end")
	}
}
