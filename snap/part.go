package snap

import (
	"iter"

	"needlebeam/api"
	"needlebeam/disk"
	"needlebeam/page"
)

// How many bytes a slot has in a page beside its piece's, how many of a piece
// stand ahead of its part, and all that a part takes beside its own.
const (
	slotSize = 4
	markSize = 1
	headSize = slotSize + markSize
)

// With which byte the piece of a record's last part begins, and with which one
// that of any other.
const (
	markLast = 0
	markMore = 1
)

// part is one of a record.
type part struct {
	b    []byte
	last bool
}

// piece is a part's bytes in its page.
func (x part) piece() []byte {
	mark := byte(markMore)
	if x.last {
		mark = markLast
	}
	return append([]byte{mark}, x.b...)
}

// partOf is the part whose piece this is, if it is one's. A piece has at least
// one byte.
func partOf(piece []byte) (part, bool) {
	x := part{b: piece[markSize:], last: piece[0] == markLast}
	return x, x.last || piece[0] == markMore
}

// space is what a page has left.
type space struct {
	slots, room int
}

// takes says whether there is space for a part of so many bytes.
func (s space) takes(length int) bool {
	return s.slots > 0 && s.room >= headSize+length
}

// take lets a part of so many bytes have its space.
func (s *space) take(length int) {
	s.slots--
	s.room -= headSize + length
}

// parts cuts records into those that stand in pages of that size, and tells
// each with the number of its page; none, if no page has that size.
func parts(size int, l [][]byte) iter.Seq2[int, part] {
	return func(yield func(int, part) bool) {
		empty, e := page.New(size)
		if e != api.OK {
			return
		}
		whole := space{api.MaxSlots, empty.Room()}
		at, left := 0, whole
		for _, rest := range l {
			for last := false; !last; { // a record without bytes has a part, too
				if !left.takes(min(len(rest), 1)) {
					at, left = at+1, whole
				}
				n := min(len(rest), left.room-headSize)
				last = n == len(rest)
				left.take(n)
				if !yield(at, part{rest[:n], last}) {
					return
				}
				rest = rest[n:]
			}
		}
	}
}

// standing tells the parts that stand in so many sectors from one on, in order;
// it ends with an error, if there is one.
func standing(d *disk.Disk, from, n int) iter.Seq2[part, api.Errno] {
	return func(yield func(part, api.Errno) bool) {
		for i := range n {
			p, e := pageIn(d, from+i)
			if e != api.OK {
				yield(part{}, e)
				return
			}
			for slot := range p.Slots() {
				x, e := partIn(p, slot)
				if !yield(x, e) || e != api.OK {
					return
				}
			}
		}
	}
}

// pageIn is the page in a sector.
func pageIn(d *disk.Disk, i int) (*page.Page, api.Errno) {
	b, e := d.Read(i)
	if e != api.OK {
		return nil, e
	}
	return page.Read(b)
}

// partIn is the part in a slot that is there; an empty one has none.
func partIn(p *page.Page, slot int) (part, api.Errno) {
	b, e := p.Get(slot)
	if e != api.OK {
		return part{}, api.ErrText
	}
	x, ok := partOf(b)
	if !ok {
		return part{}, api.ErrText
	}
	return x, api.OK
}
