package page

import (
	"bytes"
	"iter"

	"needlebeam/api"
)

// How many bytes a number has in a page, the number of slots, and a slot.
const (
	numberSize = 2
	countSize  = 1
	slotSize   = 2 * numberSize
)

// head is how many bytes stand ahead of the room, if there are so many slots.
func head(slots int) int {
	return countSize + slots*slotSize
}

// putNumber puts a number at the front of bytes, the lowest byte first.
func putNumber(b []byte, n int) {
	b[0], b[1] = byte(n), byte(n>>8)
}

// number is the one at the front of bytes.
func number(b []byte) int {
	return int(b[0]) | int(b[1])<<8
}

// left is how many bytes neither slots nor pieces have; below 0, if they have
// more than there are.
func (p *Page) left() int {
	n := p.size - head(len(p.slots))
	for _, piece := range p.slots {
		n -= len(piece)
	}
	return n
}

// trim lets the empty slots at the end go.
func (p *Page) trim() {
	n := len(p.slots)
	for n > 0 && len(p.slots[n-1]) == 0 {
		n--
	}
	p.slots = p.slots[:n]
}

// placed tells the slots in order, each piece with the byte at which it
// begins: ahead of those of all lower slots. An empty slot has none, and 0.
func (p *Page) placed() iter.Seq2[int, []byte] {
	return func(yield func(int, []byte) bool) {
		end := p.size
		for _, piece := range p.slots {
			end -= len(piece)
			at := end
			if len(piece) == 0 {
				at = 0
			}
			if !yield(at, piece) {
				return
			}
		}
	}
}

// written is the bytes of the page. Slots and pieces must have no more than
// there are.
func (p *Page) written() []byte {
	b := make([]byte, p.size)
	b[0] = byte(len(p.slots))
	slot := b[countSize:]
	for at, piece := range p.placed() {
		putNumber(slot, at)
		putNumber(slot[numberSize:], len(piece))
		copy(b[at:], piece)
		slot = slot[slotSize:]
	}
	return b
}

// take gives a page without slots those whose bytes these are; false, if they
// are no page's. The lengths alone say where each piece must be, so that what
// is wrong elsewhere is found by writing the page again; so are empty slots at
// the end, which no page has.
func (p *Page) take(b []byte) bool {
	slots := int(b[0])
	if slots > api.MaxSlots {
		return false
	}
	end := len(b)
	for i := range slots {
		length := number(b[head(i)+numberSize:])
		if length > end-head(slots) { // at the first, if the slots alone have no room
			return false
		}
		p.slots = append(p.slots, bytes.Clone(b[end-length:end]))
		end -= length
	}
	p.trim()
	return bytes.Equal(p.written(), b)
}
