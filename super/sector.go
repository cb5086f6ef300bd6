package super

import (
	"iter"

	"needlebeam/api"
	"needlebeam/disk"
	"needlebeam/pack"
	"needlebeam/sum"
)

// epochAt is where a sealed record has its epoch.
const epochAt = 8

// own is the sector in which a superblock stands. The next one has the other,
// so that this one is left as it is while that one is put.
func own(s api.Super) int {
	return int(s.Epoch % sectors)
}

// record is what stands in a superblock's sector.
func record(s api.Super) []byte {
	return sum.Seal(s.Epoch, pack.Uint([]byte{byte(s.Area)}, uint64(s.Used)))
}

// standing tells the superblocks that stand where they should, each in its own
// sector; it ends with the disk's error, if there is one.
func standing(d *disk.Disk) iter.Seq2[api.Super, api.Errno] {
	return func(yield func(api.Super, api.Errno) bool) {
		for i := range sectors {
			b, e := d.Read(i)
			if e != api.OK {
				yield(api.Super{}, e)
				return
			}
			s, ok := read(b)
			if ok && own(s) == i && !yield(s, api.OK) {
				return
			}
		}
	}
}

// read is the superblock whose record stands at the front of a sector's bytes,
// if one does. More bytes in the record are too many; those behind it are not
// looked at.
func read(b []byte) (api.Super, bool) {
	epoch := epochOf(b)
	field, _, e := sum.Open(epoch, b)
	if e != api.OK || len(field) == 0 {
		return api.Super{}, false
	}
	used, rest, e := pack.GetUint(field[1:])
	if e != api.OK || len(rest) > 0 || used > api.MaxSectors { // or it may not be a whole number
		return api.Super{}, false
	}
	s := api.Super{Epoch: epoch, Area: int(field[0]), Used: int(used)}
	return s, Fits(s)
}

// epochOf is the epoch that a record at the front of a sector's bytes would
// have, as it is opened by its epoch alone. A sector has enough bytes for it.
func epochOf(b []byte) uint32 {
	epoch := uint32(0)
	for i := range 4 {
		epoch |= uint32(b[epochAt+i]) << (8 * i)
	}
	return epoch
}
