package journal

import (
	"iter"

	"needlebeam/api"
	"needlebeam/sum"
)

// headSize is how many bytes a sealed record has ahead of its own: a record
// begins where at least as many are left in a field, so that its head is never
// cut in two.
const headSize = 12

// begin is where the next record begins, if the ones ahead of it end there.
func (j *Journal) begin(end int) int {
	if left := j.field - end%j.field; left < headSize {
		return end + left
	}
	return end
}

// left is how many bytes the fields have from where the next record begins.
func (j *Journal) left() int {
	return (j.to-j.from)*j.field - j.begin(len(j.row))
}

// standing tells the records that stand in a row, in order, each with the
// place where it ends.
func (j *Journal) standing(row []byte) iter.Seq2[[]byte, int] {
	return func(yield func([]byte, int) bool) {
		for at := 0; at < len(row); {
			b, n, e := sum.Open(j.epoch, row[at:])
			if e != api.OK || !yield(b, at+n) {
				return
			}
			at = j.begin(at + n)
		}
	}
}

// find takes from the fields that were read the records that stand there.
func (j *Journal) find(fields [][]byte) {
	var row []byte
	for _, b := range fields {
		if b == nil {
			break
		}
		row = append(row, b...)
	}
	end := 0
	for _, at := range j.standing(row) {
		end = at
	}
	j.cut(row, end)
}

// cut lets the row be so many bytes of another one, or of itself, and all of
// them committed. It can't grow over what stands behind them there.
func (j *Journal) cut(row []byte, end int) {
	j.row = row[:end:end]
	j.kept, j.pending = end, 0
}
