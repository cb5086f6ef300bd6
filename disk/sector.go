package disk

import "iter"

// How many bits the pattern of a crash has, and the pattern that has them all.
const (
	patternBits = 64
	allBits     = 1<<patternBits - 1
)

// sector is the bytes that last, and the writes that wait, in their order. All
// bytes behind those that were written are 0, and stand nowhere.
type sector struct {
	lasts []byte
	waits []write
}

// write is one that waits, with its number among those of all sectors.
type write struct {
	number int
	b      []byte
}

// waiting tells what waits, each with its number, the last one first, as the
// first that comes to last is over all that stand ahead of it.
func (s *sector) waiting() iter.Seq2[int, []byte] {
	return func(yield func(int, []byte) bool) {
		for i := len(s.waits) - 1; i >= 0; i-- {
			if !yield(s.waits[i].number, s.waits[i].b) {
				return
			}
		}
	}
}

// left is what would last behind a crash with a pattern.
func (s *sector) left(pattern uint64) []byte {
	for number, b := range s.waiting() {
		if pattern>>(number%patternBits)&1 == 1 {
			return b
		}
	}
	return s.lasts
}

// settle lets what is left of a pattern last, and nothing wait.
func (s *sector) settle(pattern uint64) {
	s.lasts = s.left(pattern)
	s.waits = nil
}
