package show

import (
	"math/rand"
	"slices"
	"testing"

	"needlebeam/api"
	"needlebeam/expr"
)

// drawer draws trees of the leaves and the nodes that it has.
type drawer struct {
	*rand.Rand
	leaves, nodes []api.Expr
}

func newDrawer(seed int64, nodes []api.Expr) drawer {
	leaves := []api.Expr{name("a"), name("b"), name("len"), val(0), val(12), text("It's"), text(") or ("), text("#\n"), text(""), truth(1), truth(0), null()}
	return drawer{rand.New(rand.NewSource(seed)), leaves, nodes}
}

// tree is one of at most that depth.
func (d drawer) tree(deep int) api.Expr {
	if deep <= 1 || d.Intn(6) == 0 {
		return d.leaves[d.Intn(len(d.leaves))]
	}
	x := d.nodes[d.Intn(len(d.nodes))]
	x.Kids = slices.Clone(x.Kids)
	for i := range x.Kids {
		x.Kids[i] = d.tree(deep - 1)
	}
	return x
}

// chain is a tree of that depth, of whose nodes one kid alone is deep.
func (d drawer) chain(deep int) api.Expr {
	if deep <= 1 {
		return d.tree(1)
	}
	x := d.nodes[d.Intn(len(d.nodes))]
	x.Kids = slices.Clone(x.Kids)
	deepest := d.Intn(len(x.Kids))
	for i := range x.Kids {
		x.Kids[i] = d.tree(min(deep-1, 2))
	}
	x.Kids[deepest] = d.chain(deep - 1)
	return x
}

// P14.1, P14.2
func TestTreesOfChance(t *testing.T) {
	d := newDrawer(14, parents(null()))
	for range 15000 {
		x := d.tree(1 + d.Intn(6))
		if !expr.Right(x) {
			continue
		}
		s := say(x, bracketed)
		if len(s) > api.MaxSource {
			none(t, x, api.ErrLong)
			continue
		}
		prints(t, x, s)
		read(t, x)
		for _, less := range without(t, s) {
			if y, f := expr.Parse(less); f.Code == api.OK && expr.Same(x, y) {
				t.Fatalf("%q: brackets that needn't stand there: %q", s, less)
			}
		}
	}
}

// P14.2: of trees that are as deep as they may be, so that some nest too deep.
func TestDeepTreesOfChance(t *testing.T) {
	d := newDrawer(15, parents(null()))
	for range 20 { // signs nest most
		d.nodes = append(d.nodes, neg(null()), not(null()))
	}
	tooDeep, fit := 0, 0
	for range 6000 {
		x := d.chain(24 + d.Intn(7))
		if !expr.Right(x) {
			continue
		}
		read(t, x)
		if nested(x) > 30 {
			tooDeep++
		} else {
			fit++
		}
	}
	if tooDeep < 100 || fit < 100 {
		t.Errorf("%d nest too deep, %d don't", tooDeep, fit)
	}
}

// grown are all trees over that one leaf with that many nodes, of a mark of
// each level and a function that takes one, and one that takes two.
func grown(nodes int) []api.Expr {
	if nodes == 1 {
		return []api.Expr{name("a")}
	}
	var l []api.Expr
	for _, x := range grown(nodes - 1) {
		l = append(l, neg(x), not(x), call("len", x))
	}
	for n := 1; n < nodes-1; n++ {
		for _, x := range grown(n) {
			for _, y := range grown(nodes - 1 - n) {
				for _, m := range []string{"or", "and", "=", "<", "+", "-", "*"} {
					l = append(l, bin(x, m, y))
				}
				l = append(l, call("nvl", x, y))
			}
		}
	}
	return l
}

// P14.2: two trees have one print just if they are the same.
func TestOnePrintEach(t *testing.T) {
	seen := map[string]api.Expr{}
	for nodes := 1; nodes <= 6; nodes++ {
		for _, x := range grown(nodes) {
			s, e := Print(x)
			if y, again := seen[s]; e != api.OK || again {
				t.Fatalf("%q, error %d: of two trees, %v and %v", s, e, x, y)
			}
			seen[s] = x
			read(t, x)
		}
	}
	for _, pair := range [][2]api.Expr{{val(1), text("1")}, {null(), text("null")}, {truth(1), text("true")}, {name("a"), text("a")}, {text("''"), text("'")}, {neg(val(1)), text("-1")}, {text("a' & 'b"), bin(text("a"), "&", text("b"))}} {
		s, _ := Print(pair[0])
		if s1, _ := Print(pair[1]); s == s1 {
			t.Errorf("%q: of two trees", s)
		}
	}
	x := bin(null(), "+", api.Expr{Op: 1, Kids: []api.Expr{}}) // a list without items is none
	prints(t, x, "null + null")
}

// What is handed in stays as it is, and one print is told each time.
func TestStays(t *testing.T) {
	d := newDrawer(16, parents(null()))
	for range 300 {
		x := d.tree(5)
		before := say(x, bracketed)
		s, e := Print(x)
		Short(x, 3)
		Level(x)
		s1, e1 := Print(x)
		if say(x, bracketed) != before || s != s1 || e != e1 {
			t.Fatalf("%q, %q, %q", before, s, s1)
		}
	}
}
