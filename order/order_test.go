package order

import (
	"cmp"
	"math"
	"slices"
	"testing"

	"needlebeam/api"
)

// made is a map with that least number; the test ends if there is none.
func made[K cmp.Ordered, V any](t *testing.T, least int) *Map[K, V] {
	t.Helper()
	m, e := New[K, V](least)
	if e != api.OK || m == nil {
		t.Fatalf("New(%d): %v, %v", least, m, e)
	}
	return m
}

// draw is a row of numbers that is the same each time.
type draw uint64

func (d *draw) below(n int) int {
	*d = *d*6364136223846793005 + 1442695040888963407
	return int(uint64(*d>>33) % uint64(n))
}

// deepest is P1.4's bound: 1 and the greatest d with 2 times least^d at most n + 1.
func deepest(n, least int) int {
	if n == 0 {
		return 0
	}
	d := 0
	for p := 2 * least; p <= n+1; p *= least {
		d++
	}
	return 1 + d
}

// checkTree holds the tree against the rules of the chapter's words.
func checkTree[K cmp.Ordered, V any](t *testing.T, m *Map[K, V]) {
	t.Helper()
	if m.root == nil {
		if m.Len() != 0 || m.Depth() != 0 || m.Nodes() != 0 {
			t.Fatal("without keys:", m.Len(), m.Depth(), m.Nodes())
		}
		return
	}
	nodes, leafDepth := 0, 0
	var keys []K
	var visit func(n *node[K, V], depth int) int
	visit = func(n *node[K, V], depth int) int {
		nodes++
		if len(n.pairs) > 2*m.least-1 || len(n.pairs) < 1 || n != m.root && len(n.pairs) < m.least-1 {
			t.Fatalf("a node of %d keys, least %d", len(n.pairs), m.least)
		}
		if n.leaf() {
			if leafDepth == 0 {
				leafDepth = depth
			}
			if leafDepth != depth {
				t.Fatal("leaves at", leafDepth, "and", depth)
			}
		} else if len(n.kids) != len(n.pairs)+1 {
			t.Fatal(len(n.pairs), "keys and kids:", len(n.kids))
		}
		size := len(n.pairs)
		for i := 0; i <= len(n.pairs); i++ {
			if !n.leaf() {
				size += visit(n.kids[i], depth+1)
			}
			if i < len(n.pairs) {
				keys = append(keys, n.pairs[i].key)
			}
		}
		if size != n.size {
			t.Fatal("size", n.size, "of", size)
		}
		return size
	}
	visit(m.root, 1)
	for i := 1; i < len(keys); i++ {
		if !cmp.Less(keys[i-1], keys[i]) {
			t.Fatal("not rising:", keys)
		}
	}
	n := len(keys)
	if m.Len() != n || m.Depth() != leafDepth || m.Nodes() != nodes {
		t.Fatal("told", m.Len(), m.Depth(), m.Nodes(), "are", n, leafDepth, nodes)
	}
	if m.Depth() > deepest(n, m.least) {
		t.Fatalf("%d keys, least %d: depth %d", n, m.least, m.Depth())
	}
	if most := 1 + (n-1)/(m.least-1); nodes > most || nodes*(2*m.least-1) < n {
		t.Fatalf("%d keys, least %d: %d nodes", n, m.least, nodes)
	}
}

// model is what a map should be, with lists alone.
type model struct {
	keys   []int
	things []string
}

func (o *model) put(k int, v string) (string, bool) {
	i, here := slices.BinarySearch(o.keys, k)
	if here {
		was := o.things[i]
		o.things[i] = v
		return was, true
	}
	o.keys = slices.Insert(o.keys, i, k)
	o.things = slices.Insert(o.things, i, v)
	return "", false
}

func (o *model) get(k int) (string, bool) {
	i, here := slices.BinarySearch(o.keys, k)
	if !here {
		return "", false
	}
	return o.things[i], true
}

func (o *model) drop(k int) (string, bool) {
	i, here := slices.BinarySearch(o.keys, k)
	if !here {
		return "", false
	}
	was := o.things[i]
	o.keys = slices.Delete(o.keys, i, i+1)
	o.things = slices.Delete(o.things, i, i+1)
	return was, true
}

func (o *model) rank(k int) int {
	i, _ := slices.BinarySearch(o.keys, k)
	return i
}

func (o *model) copied() *model {
	return &model{slices.Clone(o.keys), slices.Clone(o.things)}
}

// checkSame asks the map all that the model knows.
func checkSame(t *testing.T, m *Map[int, string], o *model) {
	t.Helper()
	checkTree(t, m)
	n := len(o.keys)
	if m.Len() != n {
		t.Fatal("Len", m.Len(), "of", n)
	}
	if l := m.Keys(math.MinInt, math.MaxInt); !slices.Equal(l, o.keys) {
		t.Fatal("Keys", l, "of", o.keys)
	}
	if l := m.Things(math.MinInt, n); !slices.Equal(l, o.things) {
		t.Fatal("Things", l, "of", o.things)
	}
	for i, k := range o.keys {
		if v, had := m.Get(k); v != o.things[i] || !had {
			t.Fatal("Get", k, v, had)
		}
		if r := m.Rank(k); r != i {
			t.Fatal("Rank", k, r, "of", i)
		}
		if ak, av, ok := m.At(i); ak != k || av != o.things[i] || !ok {
			t.Fatal("At", i, ak, av, ok)
		}
	}
}

// checkLists asks for lists from every place of a span, at every length.
func checkLists(t *testing.T, m *Map[int, string], o *model, span int) {
	t.Helper()
	for from := -1; from <= span; from++ {
		i := o.rank(from)
		if m.Rank(from) != i {
			t.Fatal("Rank", from, m.Rank(from), "of", i)
		}
		for _, most := range []int{1, 2, 3, 7, len(o.keys) - i, len(o.keys) + 1} {
			end := i + min(max(most, 0), len(o.keys)-i)
			if l := m.Keys(from, most); !slices.Equal(l, o.keys[i:end]) {
				t.Fatal("Keys", from, most, l)
			}
			if l := m.Things(from, most); !slices.Equal(l, o.things[i:end]) {
				t.Fatal("Things", from, most, l)
			}
		}
	}
}

func TestNew(t *testing.T) {
	for _, least := range []int{math.MinInt, -2, -1, 0, 1, 65, 66, math.MaxInt} {
		if m, e := New[int, string](least); m != nil || e != api.ErrArg {
			t.Error("New", least, m, e)
		}
	}
	for least := 2; least <= 64; least++ {
		m := made[int, string](t, least)
		if m.Len() != 0 || m.Depth() != 0 || m.Nodes() != 0 || len(m.Keys(math.MinInt, 9)) != 0 {
			t.Error("keys at first", least)
		}
	}
}

func TestPutGetDrop(t *testing.T) {
	m := made[string, int](t, 2)
	if v, had := m.Put("b", 7); v != 0 || had {
		t.Error("a new key had", v, had)
	}
	if v, had := m.Put("b", 8); v != 7 || !had || m.Len() != 1 {
		t.Error("it had", v, had, m.Len())
	}
	if v, had := m.Put("", 0); v != 0 || had || m.Len() != 2 {
		t.Error("a new key had", v, had, m.Len())
	}
	if v, had := m.Get(""); v != 0 || !had {
		t.Error("nothing of a key that has the zero thing", v, had)
	}
	if v, had := m.Get("b"); v != 8 || !had {
		t.Error("it has", v, had)
	}
	for _, k := range []string{"a", "c", "B", "bb"} {
		if v, had := m.Get(k); v != 0 || had {
			t.Error("a key that isn't there has", k, v, had)
		}
		if v, had := m.Drop(k); v != 0 || had || m.Len() != 2 {
			t.Error("a key went that isn't there", k, v, had)
		}
	}
	if v, had := m.Drop("b"); v != 8 || !had || m.Len() != 1 {
		t.Error("it had", v, had, m.Len())
	}
	if v, had := m.Get("b"); v != 0 || had {
		t.Error("it went, and has", v, had)
	}
	if v, had := m.Drop("b"); v != 0 || had || m.Len() != 1 {
		t.Error("it went twice", v, had)
	}
	if v, had := m.Put("b", 9); v != 0 || had || m.Len() != 2 {
		t.Error("it went, and had", v, had)
	}
}

func TestKeysAtTheirEnds(t *testing.T) {
	m := made[int64, string](t, 2)
	for _, k := range []int64{math.MaxInt64, 0, math.MinInt64, -1, 1} {
		m.Put(k, "x")
	}
	checkTree(t, m)
	if l := m.Keys(math.MinInt64, 9); !slices.Equal(l, []int64{math.MinInt64, -1, 0, 1, math.MaxInt64}) {
		t.Error(l)
	}
	if l := m.Keys(math.MaxInt64, 9); !slices.Equal(l, []int64{math.MaxInt64}) {
		t.Error(l)
	}
	if m.Rank(math.MinInt64) != 0 || m.Rank(math.MaxInt64) != 4 {
		t.Error(m.Rank(math.MinInt64), m.Rank(math.MaxInt64))
	}
}

func TestKindsOfKeys(t *testing.T) {
	type name string
	m := made[name, []int](t, 3)
	m.Put("\xff", []int{1})
	m.Put("a\x00", []int{2})
	m.Put("a", nil)
	if l := m.Keys("", 9); !slices.Equal(l, []name{"a", "a\x00", "\xff"}) {
		t.Error(l)
	}
	f := made[float64, int](t, 2)
	for i, k := range []float64{1.5, math.Inf(1), -2, math.Inf(-1), 0} {
		f.Put(k, i)
	}
	if v, had := f.Put(math.Copysign(0, -1), 9); v != 4 || !had || f.Len() != 5 {
		t.Error("0 and -0 are one key", v, had)
	}
	if l := f.Things(math.Inf(-1), 9); !slices.Equal(l, []int{3, 2, 9, 0, 1}) {
		t.Error(l)
	}
	b := made[uint8, int](t, 2)
	for i := range 256 {
		b.Put(uint8(255-i), i)
	}
	checkTree(t, b)
	if l := b.Keys(254, math.MaxInt); !slices.Equal(l, []uint8{254, 255}) {
		t.Error(l)
	}
}

// A float's NaN is no key that the chapter speaks of, but no call may break or
// run for ever on one.
func TestNaN(t *testing.T) {
	f := made[float64, int](t, 2)
	for i := range 20 {
		f.Put(math.NaN(), i)
		f.Put(float64(i), i)
	}
	f.Get(math.NaN())
	f.Rank(math.NaN())
	f.Keys(math.NaN(), 99)
	f.Drop(math.NaN())
	for i := range 20 {
		if _, had := f.Drop(float64(i)); !had {
			t.Error(i)
		}
	}
}

func TestListsAtTheirEnds(t *testing.T) {
	m := made[int, string](t, 2)
	o := &model{}
	for i := range 30 {
		m.Put(3*i, string(rune('A'+i)))
		o.put(3*i, string(rune('A'+i)))
	}
	checkLists(t, m, o, 90)
	for _, most := range []int{0, -1, math.MinInt} {
		if len(m.Keys(0, most)) != 0 || len(m.Things(0, most)) != 0 {
			t.Error("a list of at most", most)
		}
	}
	for _, from := range []int{88, math.MaxInt} {
		if len(m.Keys(from, 9)) != 0 || len(m.Things(from, 9)) != 0 || m.Rank(from) != 30 {
			t.Error("behind the last", from, m.Rank(from))
		}
	}
	if len(m.Keys(math.MinInt, math.MaxInt)) != 30 || m.Rank(math.MinInt) != 0 {
		t.Error("from the first on")
	}
	for _, i := range []int{math.MinInt, -1, 30, 31, math.MaxInt} {
		if k, v, ok := m.At(i); k != 0 || v != "" || ok {
			t.Error("At", i, k, v, ok)
		}
	}
	if k, v, ok := m.At(0); k != 0 || v != "A" || !ok {
		t.Error("At 0", k, v, ok)
	}
	if k, v, ok := m.At(29); k != 87 || v != "^" || !ok {
		t.Error("At 29", k, v, ok)
	}
}

func TestExampleOfTheChapter(t *testing.T) {
	m := made[int, bool](t, 2)
	for _, k := range []int{3, 1, 2} {
		m.Put(k, true)
	}
	if l := m.Keys(2, 9); !slices.Equal(l, []int{2, 3}) || m.Rank(3) != 2 {
		t.Error(l, m.Rank(3))
	}
}

func TestNoKeysAtAll(t *testing.T) {
	never := made[int, string](t, 2)
	gone := made[int, string](t, 2)
	for i := range 40 {
		gone.Put(i, "x")
	}
	for i := range 40 {
		gone.Drop(i)
	}
	for _, m := range []*Map[int, string]{never, gone, gone.Copy()} {
		checkEmpty(t, m)
		if m.Copy() == nil {
			t.Error("a copy without keys is no map")
		}
		if v, had := m.Put(5, "y"); v != "" || had || m.Len() != 1 || m.Depth() != 1 || m.Nodes() != 1 {
			t.Error("the first key", v, had)
		}
	}
}

// checkEmpty asks a map without keys, or nil, for all that it hasn't.
func checkEmpty(t *testing.T, m *Map[int, string]) {
	t.Helper()
	if v, had := m.Get(0); v != "" || had {
		t.Error("Get", v, had)
	}
	if v, had := m.Drop(0); v != "" || had {
		t.Error("Drop", v, had)
	}
	if len(m.Keys(math.MinInt, 9)) != 0 || len(m.Things(math.MinInt, 9)) != 0 {
		t.Error("lists")
	}
	if m.Len() != 0 || m.Rank(math.MaxInt) != 0 || m.Depth() != 0 || m.Nodes() != 0 {
		t.Error(m.Len(), m.Rank(math.MaxInt), m.Depth(), m.Nodes())
	}
	for _, i := range []int{-1, 0, 1} {
		if k, v, ok := m.At(i); k != 0 || v != "" || ok {
			t.Error("At", i, k, v, ok)
		}
	}
}

func TestNilMap(t *testing.T) {
	var m *Map[int, string]
	if v, had := m.Put(1, "x"); v != "" || had {
		t.Error("Put", v, had)
	}
	checkEmpty(t, m)
	if m.Copy() != nil {
		t.Error("a copy of nobody")
	}
	if m.Keys(0, 9) != nil || m.Things(0, 9) != nil {
		t.Error("lists of nobody")
	}
}

// R1: a map that New didn't make breaks nothing.
func TestZeroMap(t *testing.T) {
	m := &Map[int, string]{}
	checkEmpty(t, m)
	for i := range 100 {
		m.Put(i*37%100, "x")
	}
	for i := range 100 {
		m.Drop(i)
	}
	checkEmpty(t, m.Copy())
}

func TestTreesThatGrowAndGo(t *testing.T) {
	orders := []func(i, n int) int{
		func(i, n int) int { return i },
		func(i, n int) int { return n - 1 - i },
		func(i, n int) int { return i * 367 % n },
		func(i, n int) int { return (i%2)*(n-1) + (1-i%2*2)*(i/2) },
	}
	for _, least := range []int{2, 3, 4, 7, 64} {
		for up, in := range orders {
			for down, out := range orders {
				n := 600
				m := made[int, int](t, least)
				for i := range n {
					m.Put(in(i, n), i)
					checkTree(t, m)
				}
				if m.Len() != n {
					t.Fatal(least, up, down, m.Len())
				}
				for i := range n {
					if _, had := m.Drop(out(i, n)); !had {
						t.Fatal(least, up, down, i)
					}
					checkTree(t, m)
				}
				if m.Len() != 0 {
					t.Fatal(least, up, down, m.Len())
				}
			}
		}
	}
}

// P1.4 at the numbers of keys at which the bound itself turns.
func TestDepth(t *testing.T) {
	for _, c := range []struct{ least, n, depth int }{
		{2, 0, 0}, {2, 1, 1}, {2, 2, 1}, {2, 3, 2}, {2, 6, 2}, {2, 7, 3}, {2, 14, 3}, {2, 15, 4},
		{3, 4, 1}, {3, 5, 2}, {3, 16, 2}, {3, 17, 3}, {64, 126, 1}, {64, 127, 2}, {64, 8190, 2}, {64, 8191, 3},
	} {
		if d := deepest(c.n, c.least); d != c.depth {
			t.Fatal("the test's own bound", c, d)
		}
		m := made[int, int](t, c.least)
		for i := range c.n {
			m.Put(i, i)
		}
		if m.Depth() > c.depth {
			t.Error(c, m.Depth())
		}
		checkTree(t, m)
		for i := range c.n {
			m.Put(-1-i, i)
		}
		for i := range c.n {
			m.Drop(i)
		}
		if m.Len() != c.n || m.Depth() > c.depth {
			t.Error("behind drops", c, m.Depth())
		}
		checkTree(t, m)
	}
	m := made[int, int](t, 2)
	for i := range 3 {
		m.Put(i, i)
	}
	if m.Depth() != 1 || m.Nodes() != 1 {
		t.Error("3 keys, least 2: one node holds them", m.Depth(), m.Nodes())
	}
	m.Put(3, 3)
	if m.Depth() != 2 || m.Nodes() != 3 {
		t.Error("4 keys, least 2: two below one", m.Depth(), m.Nodes())
	}
}

// A key that is there already, or isn't, leaves the tree as it is.
func TestWhatChangesNothing(t *testing.T) {
	m := made[int, int](t, 2)
	for i := range 3 {
		m.Put(i, i)
	}
	m.Put(1, 9)
	if m.Depth() != 1 || m.Nodes() != 1 {
		t.Error("a thing was put anew", m.Depth(), m.Nodes())
	}
	for i := range 50 {
		m.Put(i, i)
	}
	deep, nodes := m.Depth(), m.Nodes()
	for i := range 50 {
		m.Put(i, -i)
		m.Drop(50 + i)
		m.Drop(-1 - i)
	}
	if m.Depth() != deep || m.Nodes() != nodes || m.Len() != 50 {
		t.Error(deep, nodes, m.Depth(), m.Nodes())
	}
}

func TestAgainstModel(t *testing.T) {
	for _, least := range []int{2, 3, 5, 64} {
		d := draw(least)
		m := made[int, string](t, least)
		o := &model{}
		span := 300
		for i := range 6000 {
			k := d.below(span)
			v := string(rune('a' + d.below(26)))
			drops := 3 // out of 8: it fills in some thousand calls, and empties in others
			if i/1500%2 == 1 {
				drops = 6
			}
			if d.below(8) < drops {
				got, had := m.Drop(k)
				want, is := o.drop(k)
				if got != want || had != is {
					t.Fatal("Drop", k, got, had, want, is)
				}
			} else {
				got, had := m.Put(k, v)
				want, is := o.put(k, v)
				if got != want || had != is {
					t.Fatal("Put", k, got, had, want, is)
				}
			}
			k = d.below(span)
			got, had := m.Get(k)
			if want, is := o.get(k); got != want || had != is {
				t.Fatal("Get", k, got, had, want, is)
			}
			if i%50 == 0 {
				checkSame(t, m, o)
			}
		}
		checkLists(t, m, o, span)
	}
}

func TestCopySharesNothing(t *testing.T) {
	for _, least := range []int{2, 3, 64} {
		d := draw(7 * least)
		m := made[int, string](t, least)
		o := &model{}
		for range 500 {
			k := d.below(1000)
			m.Put(k, "first")
			o.put(k, "first")
		}
		c, co := m.Copy(), o.copied()
		checkSame(t, c, co)
		if c.Depth() != m.Depth() || c.Nodes() != m.Nodes() {
			t.Error("a copy of another shape")
		}
		for _, k := range o.copied().keys {
			c.Put(k, "second") // things that are put anew, too, are the copy's alone
			co.put(k, "second")
		}
		checkSame(t, m, o)
		change := func(m *Map[int, string], o *model) {
			for range 700 {
				k := d.below(1000)
				m.Drop(k)
				o.drop(k)
				k = d.below(1000)
				m.Put(k, "third")
				o.put(k, "third")
			}
		}
		change(c, co) // the copy changes, the first one stays
		checkSame(t, c, co)
		checkSame(t, m, o)
		change(m, o) // and the other way round
		checkSame(t, m, o)
		checkSame(t, c, co)
		for _, k := range o.copied().keys {
			m.Drop(k)
		}
		checkSame(t, c, co)
	}
}

// R4: what is told is the caller's.
func TestListsAreTheCallers(t *testing.T) {
	m := made[int, string](t, 2)
	o := &model{}
	for i := range 20 {
		m.Put(i, "x")
		o.put(i, "x")
	}
	keys, things := m.Keys(0, 20), m.Things(0, 20)
	for i := range keys {
		keys[i], things[i] = -1, "changed"
	}
	checkSame(t, m, o)
	keys = m.Keys(0, 20)
	for i := range 20 {
		m.Drop(i)
		m.Put(100+i, "y")
	}
	if !slices.Equal(keys, o.keys) {
		t.Error("a list that was told turned", keys)
	}
}
