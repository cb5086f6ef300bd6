package sum

import (
	"bytes"
	"math"

	"needlebeam/api"
)

// Where the head of a sealed record has its sum and its epoch (its length
// stands first), and where the head ends. The sum is of all behind it.
const (
	sumAt    = 4
	epochAt  = 8
	headSize = 12
)

// Seal: a record.
func Seal(epoch uint32, b []byte) []byte {
	record := make([]byte, Length(len(b)))
	putWord(record, uint32(len(b)))
	putWord(record[epochAt:], epoch)
	copy(record[headSize:], b)
	putWord(record[sumAt:], Of(record[epochAt:]))
	return record
}

// Open: a record.
func Open(epoch uint32, b []byte) ([]byte, int, api.Errno) {
	if len(b) < headSize || uint64(word(b)) > uint64(len(b)-headSize) {
		return nil, 0, api.ErrText
	}
	end := Length(int(word(b)))
	if word(b[epochAt:]) != epoch || word(b[sumAt:]) != Of(b[epochAt:end]) {
		return nil, 0, api.ErrSum
	}
	return bytes.Clone(b[headSize:end]), end, api.OK
}

// Length: of a sealed record.
func Length(n int) int {
	if n < 0 {
		return 0
	}
	return min(n, math.MaxInt-headSize) + headSize // or it would go round
}

// putWord puts a number's 4 bytes at the front of b, the lowest first.
func putWord(b []byte, n uint32) {
	copy(b, []byte{byte(n), byte(n >> 8), byte(n >> 16), byte(n >> 24)})
}

// word is the number whose 4 bytes stand at the front of b.
func word(b []byte) uint32 {
	return uint32(b[0]) | uint32(b[1])<<8 | uint32(b[2])<<16 | uint32(b[3])<<24
}
