package journal

import (
	"bytes"

	"needlebeam/api"
)

// epochSize is how many bytes of a sector have its epoch.
const epochSize = 4

// mark is the bytes with which a sector of the journal's epoch begins.
func (j *Journal) mark() []byte {
	return []byte{byte(j.epoch), byte(j.epoch >> 8), byte(j.epoch >> 16), byte(j.epoch >> 24)}
}

// fields reads the field of each sector; nil, where it is of another epoch.
func (j *Journal) fields() ([][]byte, api.Errno) {
	l := make([][]byte, j.to-j.from)
	for i := range l {
		b, e := j.d.Read(j.from + i)
		if e != api.OK {
			return nil, e
		}
		if bytes.HasPrefix(b, j.mark()) {
			l[i] = b[epochSize:]
		}
	}
	return l, api.OK
}

// clear writes the sectors of the epoch behind the records full of 0, or what
// stands there might once be taken for a record's end.
func (j *Journal) clear(fields [][]byte) api.Errno {
	written := false
	for i := j.behind(); i < len(fields); i++ {
		if fields[i] == nil {
			continue
		}
		if e := j.d.Write(j.from+i, nil); e != api.OK {
			return e
		}
		written = true
	}
	if !written {
		return api.OK
	}
	return j.d.Flush()
}

// behind is the number of the first sector behind those that have bytes of
// records.
func (j *Journal) behind() int {
	return (len(j.row) + j.field - 1) / j.field
}

// write lets the records that are pending last. Without the sector in which
// the first one begins none of them stands there, so that one is written when
// all others last.
func (j *Journal) write() api.Errno {
	first := j.begin(j.kept) / j.field
	for i := first + 1; i < j.behind(); i++ {
		if e := j.put(i); e != api.OK {
			return e
		}
	}
	if first+1 < j.behind() {
		if e := j.d.Flush(); e != api.OK {
			return e
		}
	}
	if e := j.put(first); e != api.OK {
		return e
	}
	return j.d.Flush()
}

// put writes a sector, by its number in the journal, as the row has it.
func (j *Journal) put(i int) api.Errno {
	rest := j.row[i*j.field:]
	b := append(j.mark(), rest[:min(len(rest), j.field)]...)
	return j.d.Write(j.from+i, b)
}
