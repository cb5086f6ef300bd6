// Package order is layer 1: keys in order, each with a thing, in a B-tree.
package order

import (
	"cmp"
	"iter"

	"needlebeam/api"
)

// Map is a tree of pairs.
type Map[K cmp.Ordered, V any] struct {
	least int
	root  *node[K, V] // nil without keys
}

// New: without keys.
func New[K cmp.Ordered, V any](least int) (*Map[K, V], api.Errno) {
	if least < api.MinLeast || least > api.MaxLeast {
		return nil, api.ErrArg
	}
	return &Map[K, V]{least: least}, api.OK
}

// bound is the map's least number. A map that New didn't make has none of its
// own; it takes the smallest, so that no call breaks on it.
func (m *Map[K, V]) bound() int {
	return max(m.least, api.MinLeast)
}

// top is the root; nil without keys, and of a nil map.
func (m *Map[K, V]) top() *node[K, V] {
	if m == nil {
		return nil
	}
	return m.root
}

// Put: a key has a thing.
func (m *Map[K, V]) Put(k K, v V) (V, bool) {
	var none V
	if m == nil {
		return none, false
	}
	if p := m.root.find(k); p != nil {
		was := p.thing
		p.thing = v
		return was, true
	}
	if m.root == nil {
		m.root = &node[K, V]{}
	}
	m.root = m.root.roomy(m.bound())
	m.root.insert(pair[K, V]{k, v}, m.bound())
	return none, false
}

// Get: what a key has.
func (m *Map[K, V]) Get(k K) (V, bool) {
	var none V
	p := m.top().find(k)
	if p == nil {
		return none, false
	}
	return p.thing, true
}

// Drop: a key goes.
func (m *Map[K, V]) Drop(k K) (V, bool) {
	var none V
	p := m.top().find(k)
	if p == nil {
		return none, false
	}
	was := p.thing // read first: removing moves pairs about
	m.root.remove(k, m.bound())
	m.root = m.root.lowered()
	return was, true
}

// Len: how many keys.
func (m *Map[K, V]) Len() int {
	return m.top().count()
}

// from tells the pairs whose keys aren't below one, rising, at most so many.
func (m *Map[K, V]) from(k K, most int) iter.Seq2[K, V] {
	return func(yield func(K, V) bool) {
		left := most
		if left < 1 {
			return
		}
		m.top().walk(k, func(k K, v V) bool {
			left--
			return yield(k, v) && left > 0
		})
	}
}

// Keys: that aren't below one.
func (m *Map[K, V]) Keys(from K, most int) []K {
	var l []K
	for k := range m.from(from, most) {
		l = append(l, k)
	}
	return l
}

// Things: of keys that aren't below one.
func (m *Map[K, V]) Things(from K, most int) []V {
	var l []V
	for _, v := range m.from(from, most) {
		l = append(l, v)
	}
	return l
}

// Rank: how many keys are below one.
func (m *Map[K, V]) Rank(k K) int {
	return m.top().rank(k)
}

// At: the key with so many below it.
func (m *Map[K, V]) At(i int) (K, V, bool) {
	var noKey K
	var noThing V
	if i < 0 || i >= m.Len() {
		return noKey, noThing, false
	}
	p := m.root.at(i)
	return p.key, p.thing, true
}

// Depth: nodes one below the other.
func (m *Map[K, V]) Depth() int {
	deep := 0
	for n := m.top(); n != nil; n = n.first() {
		deep++
	}
	return deep
}

// Nodes: how many.
func (m *Map[K, V]) Nodes() int {
	return m.top().nodes()
}

// Copy: shares nothing.
func (m *Map[K, V]) Copy() *Map[K, V] {
	if m == nil {
		return nil
	}
	return &Map[K, V]{least: m.least, root: m.root.clone()}
}
