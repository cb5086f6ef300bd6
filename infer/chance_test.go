package infer

import (
	"math/rand"
	"slices"
	"testing"

	"needlebeam/api"
	"needlebeam/expr"
)

// drawer draws trees.
type drawer struct {
	*rand.Rand
}

func newDrawer(seed int64) drawer {
	return drawer{rand.New(rand.NewSource(seed))}
}

// free is a tree of at most that depth, whatever its kind is.
func (d drawer) free(deep int) api.Expr {
	if deep <= 1 || d.Intn(5) == 0 {
		l := of()[d.Intn(4)]
		if d.Intn(40) == 0 {
			return name("z")
		}
		return l[d.Intn(len(l))]
	}
	o := nodes[d.Intn(len(nodes))]
	var l []api.Expr
	for range kids(o) {
		l = append(l, d.free(deep-1))
	}
	return node(o, l...)
}

// tree is one of that kind, or of none (null) at times, of at most that depth.
func (d drawer) tree(kind byte, deep int) api.Expr {
	if deep <= 1 || d.Intn(6) == 0 {
		i := slices.Index([]byte("nitb"), kind)
		l := of()[i*min(1, d.Intn(5))]
		return l[d.Intn(len(l))]
	}
	for {
		o := nodes[d.Intn(len(nodes))]
		lines := readings[o]
		r := lines[d.Intn(len(lines))]
		if r[len(r)-1] != kind {
			continue
		}
		var l []api.Expr
		for i := range kids(o) {
			l = append(l, d.tree(r[i], deep-1))
		}
		return node(o, l...)
	}
}

// P15.1: most have no kind.
func TestTreesOfChance(t *testing.T) {
	d := newDrawer(15)
	seen := map[api.Errno]int{}
	for range 20000 {
		x := d.free(1 + d.Intn(5))
		if expr.Right(x) {
			tells(t, x, table())
			_, e := Kind(x, table())
			seen[e]++
		}
	}
	if seen[api.OK] < 1000 || seen[api.ErrName] < 100 || seen[api.ErrType] < 1000 {
		t.Error(seen)
	}
}

// P15.1: all have one, or are null.
func TestTreesOfKinds(t *testing.T) {
	d := newDrawer(16)
	for i := range 10000 {
		kind := 1 + i%3
		x := d.tree(letter(kind), 1+d.Intn(5))
		if !expr.Right(x) {
			continue
		}
		tells(t, x, table())
		if !Fits(x, table(), kind) {
			t.Fatalf("%v: doesn't fit %d", x, kind)
		}
		cols := slices.Clone(table())
		d.Shuffle(len(cols), func(i, j int) { cols[i], cols[j] = cols[j], cols[i] })
		k, _ := Kind(x, table())
		has(t, x, cols, k) // whatever the columns' order is
	}
}

// P15.2: with trees that have a kind, and others, in a name's place.
func TestPut(t *testing.T) {
	d := newDrawer(17)
	puts := 0
	for range 20000 {
		x := d.free(1 + d.Intn(4))
		c := table()[d.Intn(len(table()))]
		y := d.tree(letter(c.Kind), 1+d.Intn(4))
		z := expr.Put(x, c.Name, y)
		kind, e := Kind(y, table())
		if !expr.Right(z) || e != api.OK || kind != c.Kind {
			continue
		}
		want, e := Kind(x, table())
		if k, e1 := Kind(z, table()); k != want || e1 != e {
			t.Fatalf("%v, %v in the place of %s: %d, error %d; it was %d, error %d", x, y, c.Name, k, e1, want, e)
		}
		if !expr.Same(x, z) {
			puts++
		}
	}
	if puts < 2000 {
		t.Error(puts)
	}
}

// P15.1: what a tree of a kind uses are the columns without which it has a name
// that no column has.
func TestUsesOfChance(t *testing.T) {
	d := newDrawer(18)
	for i := range 5000 {
		x := d.tree("itb"[i%3], 1+d.Intn(5))
		if !expr.Right(x) {
			continue
		}
		var want []int
		for i := range table() {
			if _, e := Kind(x, slices.Delete(table(), i, i+1)); e == api.ErrName {
				want = append(want, i)
			}
		}
		if u := Uses(x, table()); !slices.Equal(u, want) {
			t.Fatalf("%v: %v; asked for %v", x, u, want)
		}
	}
}

// What is handed in stays as it is, one answer is told each time, and what is
// told is new memory.
func TestStays(t *testing.T) {
	d := newDrawer(19)
	for range 500 {
		x := d.free(4)
		before := expr.Put(x, "", null())
		cols := table()
		k, e := Kind(x, cols)
		u := Uses(x, cols)
		fits := Fits(x, cols, 1)
		Columns(cols)
		Find(cols, "t")
		u1 := Uses(x, cols)
		for i := range u1 {
			u1[i] = -7
		}
		k1, e1 := Kind(x, cols)
		if !expr.Same(x, before) || !slices.Equal(cols, table()) || k != k1 || e != e1 || fits != Fits(x, cols, 1) || !slices.Equal(u, Uses(x, cols)) {
			t.Fatalf("%v: %d, %d, %v", x, k, e, u)
		}
	}
}
