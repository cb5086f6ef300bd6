package order

import (
	"cmp"
	"slices"
)

// pair is a key and its thing.
type pair[K cmp.Ordered, V any] struct {
	key   K
	thing V
}

// node is a node of the tree: its pairs, rising, and, but in a leaf, one kid
// more than pairs, each between its neighbours. A nil node is an empty tree.
type node[K cmp.Ordered, V any] struct {
	pairs []pair[K, V]
	kids  []*node[K, V]
	size  int // pairs in it and below it: so ranks needn't walk
}

func (n *node[K, V]) leaf() bool {
	return len(n.kids) == 0
}

func (n *node[K, V]) full(least int) bool {
	return len(n.pairs) >= 2*least-1
}

// spare: a pair may be taken from it.
func (n *node[K, V]) spare(least int) bool {
	return len(n.pairs) >= least
}

func (n *node[K, V]) count() int {
	if n == nil {
		return 0
	}
	return n.size
}

// recount: its size, when its kids' sizes are right.
func (n *node[K, V]) recount() {
	n.size = len(n.pairs)
	for _, kid := range n.kids {
		n.size += kid.size
	}
}

// first is the kid with the least keys; nil in a leaf.
func (n *node[K, V]) first() *node[K, V] {
	if n.leaf() {
		return nil
	}
	return n.kids[0]
}

// place: how many of the node's keys are below k, and whether k is the next.
func (n *node[K, V]) place(k K) (int, bool) {
	return slices.BinarySearchFunc(n.pairs, k, func(p pair[K, V], k K) int {
		return cmp.Compare(p.key, k)
	})
}

// find is where the key's pair stands; nil if it isn't there.
func (n *node[K, V]) find(k K) *pair[K, V] {
	for n != nil {
		i, here := n.place(k)
		if here {
			return &n.pairs[i]
		}
		if n.leaf() {
			return nil
		}
		n = n.kids[i]
	}
	return nil
}

// walk yields the pairs whose keys aren't below from, rising, and says whether
// more are wanted.
func (n *node[K, V]) walk(from K, yield func(K, V) bool) bool {
	if n == nil {
		return true
	}
	i, here := n.place(from)
	if !n.leaf() && !here && !n.kids[i].walk(from, yield) {
		return false
	}
	for ; i < len(n.pairs); i++ {
		if !yield(n.pairs[i].key, n.pairs[i].thing) {
			return false
		}
		if !n.leaf() && !n.kids[i+1].walk(from, yield) {
			return false
		}
	}
	return true
}

// rank: how many keys are below k.
func (n *node[K, V]) rank(k K) int {
	below := 0
	for n != nil {
		i, here := n.place(k)
		below += i
		if n.leaf() {
			break
		}
		for _, kid := range n.kids[:i] {
			below += kid.size
		}
		if here {
			below += n.kids[i].size
			break
		}
		n = n.kids[i]
	}
	return below
}

// at is the pair with i keys below it, if i is 0 to n.size-1.
func (n *node[K, V]) at(i int) pair[K, V] {
	if n.leaf() {
		return n.pairs[i]
	}
	for j, kid := range n.kids {
		if i < kid.size {
			return kid.at(i)
		}
		i -= kid.size
		if i == 0 {
			return n.pairs[j]
		}
		i--
	}
	return pair[K, V]{} // not with such an i
}

func (n *node[K, V]) nodes() int {
	if n == nil {
		return 0
	}
	sum := 1
	for _, kid := range n.kids {
		sum += kid.nodes()
	}
	return sum
}

func (n *node[K, V]) clone() *node[K, V] {
	if n == nil {
		return nil
	}
	c := &node[K, V]{pairs: slices.Clone(n.pairs), size: n.size}
	for _, kid := range n.kids {
		c.kids = append(c.kids, kid.clone())
	}
	return c
}

// roomy is the root that takes one more pair: a full one is split below a new one.
func (n *node[K, V]) roomy(least int) *node[K, V] {
	if !n.full(least) {
		return n
	}
	up := &node[K, V]{kids: []*node[K, V]{n}, size: n.size}
	up.split(0, least)
	return up
}

// insert lays a pair, whose key isn't there, into a node that isn't full. Full
// kids are split on the way down, so that the way needn't be gone up again.
func (n *node[K, V]) insert(p pair[K, V], least int) {
	for {
		n.size++
		i, _ := n.place(p.key)
		if n.leaf() {
			n.pairs = slices.Insert(n.pairs, i, p)
			return
		}
		if n.kids[i].full(least) {
			n.split(i, least)
			if cmp.Less(n.pairs[i].key, p.key) {
				i++
			}
		}
		n = n.kids[i]
	}
}

// split makes two of the full kid i; its middle pair comes between them.
func (n *node[K, V]) split(i, least int) {
	left := n.kids[i]
	middle := left.pairs[least-1]
	right := &node[K, V]{pairs: slices.Clone(left.pairs[least:])}
	left.pairs = slices.Delete(left.pairs, least-1, len(left.pairs))
	if !left.leaf() {
		right.kids = slices.Clone(left.kids[least:])
		left.kids = slices.Delete(left.kids, least, len(left.kids))
	}
	left.recount()
	right.recount()
	n.pairs = slices.Insert(n.pairs, i, middle)
	n.kids = slices.Insert(n.kids, i+1, right)
}

// remove takes a key out that is there. A node that isn't the root must have
// a pair to spare; each kid is given one ahead of going down.
func (n *node[K, V]) remove(k K, least int) {
	n.size--
	i, here := n.place(k)
	switch {
	case n.leaf():
		n.pairs = slices.Delete(n.pairs, i, i+1)
	case !here:
		i = n.fill(i, least)
		n.kids[i].remove(k, least)
	case n.kids[i].spare(least):
		n.pairs[i] = n.kids[i].at(n.kids[i].size - 1)
		n.kids[i].remove(n.pairs[i].key, least)
	case n.kids[i+1].spare(least):
		n.pairs[i] = n.kids[i+1].at(0)
		n.kids[i+1].remove(n.pairs[i].key, least)
	default:
		n.merge(i)
		n.kids[i].remove(k, least)
	}
}

// fill gives kid i a pair to spare, from a neighbour that has one, or by
// merging it with one, and tells the place at which its keys are then.
func (n *node[K, V]) fill(i, least int) int {
	switch {
	case n.kids[i].spare(least):
	case i > 0 && n.kids[i-1].spare(least):
		n.shiftUp(i - 1)
	case i+1 < len(n.kids) && n.kids[i+1].spare(least):
		n.shiftDown(i)
	case i > 0:
		i--
		n.merge(i)
	default:
		n.merge(i)
	}
	return i
}

// shiftUp: the last pair of kid i goes up to place i, and that one to kid i+1.
func (n *node[K, V]) shiftUp(i int) {
	left, right := n.kids[i], n.kids[i+1]
	last := len(left.pairs) - 1
	right.pairs = slices.Insert(right.pairs, 0, n.pairs[i])
	n.pairs[i] = left.pairs[last]
	left.pairs = slices.Delete(left.pairs, last, last+1)
	if !left.leaf() {
		right.kids = slices.Insert(right.kids, 0, left.kids[last+1])
		left.kids = slices.Delete(left.kids, last+1, last+2)
	}
	left.recount()
	right.recount()
}

// shiftDown: the first pair of kid i+1 goes up to place i, and that one to kid i.
func (n *node[K, V]) shiftDown(i int) {
	left, right := n.kids[i], n.kids[i+1]
	left.pairs = append(left.pairs, n.pairs[i])
	n.pairs[i] = right.pairs[0]
	right.pairs = slices.Delete(right.pairs, 0, 1)
	if !right.leaf() {
		left.kids = append(left.kids, right.kids[0])
		right.kids = slices.Delete(right.kids, 0, 1)
	}
	left.recount()
	right.recount()
}

// merge makes one kid of kids i and i+1 and the pair between them.
func (n *node[K, V]) merge(i int) {
	left, right := n.kids[i], n.kids[i+1]
	left.pairs = append(append(left.pairs, n.pairs[i]), right.pairs...)
	left.kids = append(left.kids, right.kids...)
	left.size += 1 + right.size
	n.pairs = slices.Delete(n.pairs, i, i+1)
	n.kids = slices.Delete(n.kids, i+1, i+2)
}

// lowered is the root, when one without pairs has given way to its only kid.
func (n *node[K, V]) lowered() *node[K, V] {
	if len(n.pairs) > 0 {
		return n
	}
	return n.first()
}
