package journal

import (
	"hash/crc32"
	"math"
	"math/rand"
	"slices"
	"strings"
	"testing"

	"needlebeam/api"
	"needlebeam/disk"
)

// number is 4 bytes, the lowest first.
func number(n uint32) string {
	s := ""
	for range 4 {
		s += string([]byte{byte(n % 256)})
		n /= 256
	}
	return s
}

// sealed is a sealed record as the words say it.
func sealed(epoch uint32, s string) string {
	return number(uint32(len(s))) + number(crc32.ChecksumIEEE([]byte(number(epoch)+s))) + number(epoch) + s
}

// places are the bytes of the row at which records of these lengths begin, and
// where the last one ends, found byte by byte.
func places(field int, l []string) ([]int, int) {
	var starts []int
	end := 0
	for _, s := range l {
		at := end
		for at%field > field-12 {
			at++
		}
		starts = append(starts, at)
		end = at + 12 + len(s)
	}
	return starts, end
}

// row is the bytes of the records, with 0 wherever there are none.
func row(field int, epoch uint32, l []string) string {
	b := ""
	starts, _ := places(field, l)
	for i, s := range l {
		b += strings.Repeat("\x00", starts[i]-len(b)) + sealed(epoch, s)
	}
	return b
}

// sector is the bytes of one of a journal's sectors, by its number there.
func sector(size int, epoch uint32, l []string, i int) string {
	field := size - 4
	b := row(field, epoch, l)
	b += strings.Repeat("\x00", (i+1)*field)
	return number(epoch) + b[i*field:(i+1)*field]
}

// deed is one of a disk: a write of a sector, or a flush.
type deed struct {
	flush bool
	i     int
	b     string
}

// commits are the deeds of a commit of the records behind the first so many.
func commits(size, from int, epoch uint32, l []string, kept int) []deed {
	flush := deed{flush: true}
	if kept == len(l) {
		return []deed{flush}
	}
	starts, end := places(size-4, l)
	first, last := starts[kept]/(size-4), (end-1)/(size-4)
	var deeds []deed
	for i := first + 1; i <= last; i++ {
		deeds = append(deeds, deed{i: from + i, b: sector(size, epoch, l, i)})
	}
	if last > first {
		deeds = append(deeds, flush)
	}
	return append(deeds, deed{i: from + first, b: sector(size, epoch, l, first)}, flush)
}

// fresh is a new disk that has these sectors, which last; all others are 0.
func fresh(t *testing.T, sectors, size int, has map[int]string) *disk.Disk {
	t.Helper()
	d, e := disk.New(sectors, size)
	if e != api.OK {
		t.Fatal(e)
	}
	for i, s := range has {
		if e := d.Write(i, []byte(s)); e != api.OK {
			t.Fatal(e)
		}
	}
	d.Flush()
	return d
}

// open opens what must be opened.
func open(t *testing.T, d *disk.Disk, from, to int, epoch uint32) *Journal {
	t.Helper()
	j, e := Open(d, from, to, epoch)
	if j == nil || e != api.OK {
		t.Fatalf("sectors %d to %d: error %d", from, to, e)
	}
	return j
}

// add adds what must have room.
func add(t *testing.T, j *Journal, l ...string) {
	t.Helper()
	for _, s := range l {
		if e := j.Add([]byte(s)); e != api.OK {
			t.Fatalf("%d bytes: error %d", len(s), e)
		}
	}
}

// commit commits what must last.
func commit(t *testing.T, j *Journal) {
	t.Helper()
	if e := j.Commit(); e != api.OK {
		t.Fatal(e)
	}
}

// records are the bytes of all, as texts.
func records(j *Journal) []string {
	var l []string
	for _, b := range j.Records() {
		l = append(l, string(b))
	}
	return l
}

// has asks which records there are.
func has(t *testing.T, j *Journal, want ...string) {
	t.Helper()
	if l := records(j); !slices.Equal(l, want) {
		t.Fatalf("%d records %.300q; asked for %d %.300q", len(l), l, len(want), want)
	}
}

// counts asks for what a journal of so many sectors of that size tells with
// these records.
func counts(t *testing.T, j *Journal, sectors, size, pending int, l []string) {
	t.Helper()
	has(t, j, l...)
	starts, _ := places(size-4, append(slices.Clone(l), ""))
	_, used := places(size-4, l)
	room := max(0, sectors*(size-4)-starts[len(l)]-12)
	if j.Used() != used || j.Room() != room || j.Pending() != pending {
		t.Fatalf("used %d, room %d, pending %d; asked for %d, %d, %d", j.Used(), j.Room(), j.Pending(), used, room, pending)
	}
}

// see asks for the bytes of a sector, 0 behind them.
func see(t *testing.T, d *disk.Disk, i int, want string) {
	t.Helper()
	want += strings.Repeat("\x00", d.Size()-len(want))
	if b, e := d.Read(i); string(b) != want || e != api.OK {
		t.Fatalf("sector %d: %x, error %d; asked for %x", i, b, e, want)
	}
}

// lasting are the sectors that last behind some deeds and a crash.
func lasting(has map[int]string, deeds []deed, pattern uint64) map[int]string {
	lasts := map[int]string{}
	for i, s := range has {
		lasts[i] = s
	}
	var waits []deed
	for _, x := range deeds {
		if !x.flush {
			waits = append(waits, x)
			continue
		}
		for _, w := range waits {
			lasts[w.i] = w.b
		}
		waits = nil
	}
	for n, w := range waits {
		if pattern>>(n%64)&1 == 1 {
			lasts[w.i] = w.b
		}
	}
	return lasts
}

// does asks whether a call does just these deeds, in order, on a disk that has
// these sectors: it goes dark at each of them, and crashes.
func does(t *testing.T, sectors, size int, has map[int]string, call func(d *disk.Disk) api.Errno, deeds []deed) {
	t.Helper()
	for fuse := range len(deeds) + 2 {
		for _, pattern := range []uint64{0, 1, 2, 4, 5, 1<<63 - 1, math.MaxUint64 - 1, math.MaxUint64} {
			d := fresh(t, sectors, size, has)
			ahead := d.Deeds()
			d.Fuse(fuse)
			want := api.OK
			if fuse < len(deeds) {
				want = api.ErrDown
			}
			if e := call(d); e != want {
				t.Fatalf("fuse %d of %d: error %d", fuse, len(deeds), e)
			}
			done := min(fuse, len(deeds))
			if d.Deeds()-ahead != done || d.Dark() != (want != api.OK) {
				t.Fatalf("fuse %d: %d deeds of %d, dark %t", fuse, d.Deeds()-ahead, len(deeds), d.Dark())
			}
			d.Crash(pattern)
			lasts := lasting(has, deeds[:done], pattern)
			for i := range sectors {
				see(t, d, i, lasts[i])
			}
		}
	}
}

// P9.1: what can't be, ahead of the dark disk; a call that is refused does no
// deed.
func TestOpenOfWhatCannotBe(t *testing.T) {
	wrong := [][2]int{{-1, 3}, {-1, 0}, {-2, -1}, {0, 0}, {3, 3}, {4, 2}, {1, 0}, {0, -1}, {0, 7}, {5, 7}, {6, 6}, {6, 7}, {7, 8}, {math.MinInt, 3}, {math.MinInt, math.MaxInt}, {0, math.MaxInt}, {math.MaxInt, math.MinInt}, {0, math.MinInt}, {math.MaxInt - 1, math.MaxInt}}
	right := [][2]int{{0, 1}, {0, 6}, {5, 6}, {2, 5}}
	for _, x := range append(wrong, right...) {
		if j, e := Open(nil, x[0], x[1], 1); j != nil || e != api.ErrNil {
			t.Errorf("%v without a disk: error %d", x, e)
		}
	}
	d := fresh(t, 6, 64, nil)
	for _, none := range []*disk.Disk{{}, d} {
		for _, x := range wrong {
			if j, e := Open(none, x[0], x[1], 1); j != nil || e != api.ErrArg {
				t.Errorf("%v: error %d", x, e)
			}
		}
	}
	d.Fuse(0)
	d.Flush()
	for _, x := range wrong {
		if j, e := Open(d, x[0], x[1], 1); j != nil || e != api.ErrArg {
			t.Errorf("%v, dark: error %d", x, e)
		}
	}
	for _, x := range right {
		if j, e := Open(d, x[0], x[1], 1); j != nil || e != api.ErrDown {
			t.Errorf("%v, dark: error %d", x, e)
		}
	}
	d.Crash(0)
	for _, x := range right {
		counts(t, open(t, d, x[0], x[1], 1), x[1]-x[0], 64, 0, nil)
	}
	if d.Deeds() != 1 || d.Waits() != 0 {
		t.Errorf("%d deeds, %d wait", d.Deeds(), d.Waits())
	}
}

// R1: nobody is there, and a journal that Open didn't make.
func TestNoJournal(t *testing.T) {
	for _, j := range []*Journal{nil, {}} {
		for _, b := range [][]byte{nil, {}, []byte("a"), make([]byte, 1000)} {
			if e := j.Add(b); e != api.ErrNil {
				t.Error(e)
			}
		}
		if j.Commit() != api.ErrNil || j.Reset(3) != api.ErrNil {
			t.Error("nobody did it")
		}
		if len(j.Records()) != 0 || j.Drop() != 0 || j.Room() != 0 || j.Pending() != 0 || j.Used() != 0 {
			t.Error("nobody has something")
		}
	}
}

// P9.1, P9.2: the bytes written out, in the journal's sectors alone.
func TestBytes(t *testing.T) {
	full := strings.Repeat("\xff", 64)
	d := fresh(t, 5, 64, map[int]string{0: full, 1: full, 2: full, 3: full, 4: full})
	j := open(t, d, 1, 4, 0x01020304)
	add(t, j, "abc", strings.Repeat("x", 22), "de")
	commit(t, j)
	see(t, d, 0, full)
	see(t, d, 1, "\x04\x03\x02\x01"+
		"\x03\x00\x00\x00"+number(crc32.ChecksumIEEE([]byte("\x04\x03\x02\x01abc")))+"\x04\x03\x02\x01abc"+
		"\x16\x00\x00\x00"+number(crc32.ChecksumIEEE([]byte("\x04\x03\x02\x01xxxxxxxxxxxxxxxxxxxxxx")))+"\x04\x03\x02\x01xxxxxxxxxxxxxxxxxxxxxx") // 49 bytes of the field; 11 are left
	see(t, d, 2, "\x04\x03\x02\x01"+
		"\x02\x00\x00\x00"+number(crc32.ChecksumIEEE([]byte("\x04\x03\x02\x01de")))+"\x04\x03\x02\x01de")
	see(t, d, 3, full)
	see(t, d, 4, full)
	counts(t, j, 3, 64, 0, []string{"abc", strings.Repeat("x", 22), "de"})
}

// P9.2: a field that has just 12 bytes left, one less, and none.
func TestBeginning(t *testing.T) {
	for _, size := range []int{64, 65, 100, 1024} {
		field := size - 4
		for left := range 30 {
			d := fresh(t, 3, size, nil)
			j := open(t, d, 0, 3, 7)
			long := strings.Repeat("x", field-12-left)
			add(t, j, long)
			if j.Used() != field-left {
				t.Fatalf("used %d of %d", j.Used(), field)
			}
			begins := field - left
			if left < 12 {
				begins = field
			}
			if j.Room() != 3*field-begins-12 {
				t.Errorf("size %d, left %d: room %d", size, left, j.Room())
			}
			add(t, j, "")
			if j.Used() != begins+12 {
				t.Errorf("size %d, left %d: used %d", size, left, j.Used())
			}
			commit(t, j)
			counts(t, open(t, d, 0, 3, 7), 3, size, 0, []string{long, ""})
			want := ""
			if left < 12 {
				want = number(7) + sealed(7, "")
			}
			see(t, d, 1, want)
		}
	}
}

// P9.2: the greatest record that has room, and one byte more, of empty and of
// part-full journals.
func TestRoom(t *testing.T) {
	for _, size := range []int{64, 77, 1024} {
		for sectors := 1; sectors <= 4; sectors++ {
			for first := 0; first <= sectors*(size-4)-12; first += 7 {
				d := fresh(t, sectors+1, size, nil)
				j := open(t, d, 1, sectors+1, 1)
				if j.Room() != sectors*(size-4)-12 {
					t.Fatalf("empty: room %d", j.Room())
				}
				l := []string{strings.Repeat("a", first)}
				add(t, j, l...)
				counts(t, j, sectors, size, 1, l)
				room := j.Room()
				if e := j.Add(make([]byte, room+1)); e != api.ErrFull {
					t.Fatalf("%d bytes of %d: error %d", room+1, room, e)
				}
				counts(t, j, sectors, size, 1, l)
				starts, _ := places(size-4, append(l, ""))
				fits := starts[1]+12 <= sectors*(size-4)
				e := j.Add([]byte(strings.Repeat("b", room)))
				if fits != (e == api.OK) || !fits && e != api.ErrFull {
					t.Fatalf("behind %d, %d bytes: error %d", first, room, e)
				}
				if fits {
					l = append(l, strings.Repeat("b", room))
				}
				counts(t, j, sectors, size, len(l), l)
				if j.Room() != 0 || j.Add(nil) != api.ErrFull {
					t.Fatal("there is room still")
				}
				commit(t, j)
				counts(t, open(t, d, 1, sectors+1, 1), sectors, size, 0, l)
				see(t, d, 0, "")
			}
		}
	}
}

// P9.2: a record of no bytes has room where just its head has; Room doesn't
// tell that from none.
func TestRoomOfNoBytes(t *testing.T) {
	j := open(t, fresh(t, 1, 64, nil), 0, 1, 1)
	add(t, j, strings.Repeat("a", 36))
	if j.Room() != 0 {
		t.Error(j.Room())
	}
	if e := j.Add([]byte("a")); e != api.ErrFull {
		t.Error(e)
	}
	add(t, j, "")
	if j.Used() != 60 || j.Room() != 0 || j.Add(nil) != api.ErrFull || j.Pending() != 2 {
		t.Errorf("used %d, room %d", j.Used(), j.Room())
	}
}

// R1: the greatest of disks, full of the smallest records, and of one.
func TestGreatest(t *testing.T) {
	d := fresh(t, api.MaxSectors, api.MaxSector, nil)
	j := open(t, d, 0, api.MaxSectors, math.MaxUint32)
	all := j.Room()
	if all != 600*1020-12 {
		t.Fatal(all)
	}
	n := 0
	for j.Add(nil) == api.OK {
		n++
	}
	if n != 600*85 || j.Used() != 600*1020 {
		t.Fatalf("%d records, used %d", n, j.Used())
	}
	commit(t, j)
	if j = open(t, d, 0, api.MaxSectors, math.MaxUint32); len(j.Records()) != n || j.Room() != 0 {
		t.Fatal("not all are there")
	}
	j = open(t, d, 0, api.MaxSectors, 1)
	one := strings.Repeat("z", all)
	add(t, j, one)
	commit(t, j)
	has(t, open(t, d, 0, api.MaxSectors, 1), one)
}

// letters are records that can be told apart, of these lengths.
func letters(lengths ...int) []string {
	var l []string
	for i, n := range lengths {
		l = append(l, strings.Repeat(string(rune('a'+i%26)), n))
	}
	return l
}

// P9.2: a commit does just the deeds that are told, in order.
func TestCommitDeeds(t *testing.T) {
	for _, x := range []struct {
		kept, added []int
	}{
		{nil, nil},
		{nil, []int{0}},
		{nil, []int{48}},             // just a field
		{nil, []int{49}},             // one byte in the next
		{nil, []int{36, 0}},          // the second just to the field's end
		{nil, []int{37, 0}},          // the second in the next field, its first bytes too few
		{nil, []int{10, 150, 3}},     // over three fields and more
		{nil, []int{108 + 60*2}},     // just four fields
		{nil, []int{3, 5, 7}},        // all in one
		{[]int{3}, nil},              // nothing is added
		{[]int{3}, []int{0}},         // the same field
		{[]int{36}, []int{0}},        // it becomes just full
		{[]int{37}, []int{0}},        // what is left isn't used: the next field alone
		{[]int{48}, []int{4}},        // nothing is left
		{[]int{48}, []int{100}},      // nothing is left, and two fields
		{[]int{47}, []int{100, 40}},  // three fields
		{[]int{100, 20}, []int{190}}, // what was kept stands in the first
		{[]int{0, 0, 0}, []int{0, 0, 0, 0, 0}},
	} {
		kept, l := len(x.kept), letters(append(x.kept, x.added...)...)
		for _, epoch := range []uint32{1, 0x04030201, math.MaxUint32} {
			full := strings.Repeat("\xee", 64)
			on := map[int]string{0: full, 1: full, 8: full}
			if _, end := places(60, l[:kept]); kept > 0 {
				for i := range (end + 59) / 60 {
					on[2+i] = sector(64, epoch, l[:kept], i)
				}
			}
			call := func(d *disk.Disk) api.Errno {
				j := open(t, d, 2, 8, epoch)
				counts(t, j, 6, 64, 0, l[:kept])
				add(t, j, l[kept:]...)
				counts(t, j, 6, 64, len(l)-kept, l)
				e := j.Commit()
				if e == api.OK {
					counts(t, j, 6, 64, 0, l)
				}
				return e
			}
			does(t, 9, 64, on, call, commits(64, 2, epoch, l, kept))
		}
	}
}

// P9.2: nothing but a commit does a deed; none of what was added is kept
// without it.
func TestAddIsNotForGood(t *testing.T) {
	d := fresh(t, 4, 64, nil)
	j := open(t, d, 0, 4, 5)
	ahead := d.Deeds()
	add(t, j, "one", strings.Repeat("x", 100))
	j.Records()
	j.Drop()
	add(t, j, "two")
	if d.Deeds() != ahead || d.Waits() != 0 {
		t.Error("a deed was done")
	}
	counts(t, open(t, d, 0, 4, 5), 4, 64, 0, nil)
	commit(t, j)
	add(t, j, "three")
	counts(t, j, 4, 64, 1, []string{"two", "three"})
	d.Crash(0)
	counts(t, open(t, d, 0, 4, 5), 4, 64, 0, []string{"two"})
}

// P9.2: without any that was added the disk is flushed alone, so that what
// waits there lasts.
func TestCommitOfNone(t *testing.T) {
	d := fresh(t, 3, 64, nil)
	j := open(t, d, 1, 3, 5)
	d.Write(0, []byte("other"))
	commit(t, j)
	d.Crash(0)
	see(t, d, 0, "other")
	see(t, d, 1, "")
	d.Fuse(0)
	if e := j.Commit(); e != api.ErrDown {
		t.Error(e)
	}
	if e := j.Commit(); e != api.ErrDown {
		t.Error(e)
	}
}

// P9.2: what was added goes, what was committed stays, and what is added then
// stands where that stood.
func TestDrop(t *testing.T) {
	for _, kept := range [][]int{nil, {0}, {3}, {36}, {37}, {48}, {100, 7}} {
		for _, added := range [][]int{nil, {0}, {1}, {100}, {20, 30, 40}} {
			d := fresh(t, 6, 64, nil)
			j := open(t, d, 0, 6, 5)
			l := letters(append(slices.Clone(kept), added...)...)
			k := len(kept)
			add(t, j, l[:k]...)
			commit(t, j)
			if n := j.Drop(); n != 0 {
				t.Fatal(n)
			}
			add(t, j, l[k:]...)
			if n := j.Drop(); n != len(added) {
				t.Fatalf("%d went of %d", n, len(added))
			}
			counts(t, j, 6, 64, 0, l[:k])
			if n := j.Drop(); n != 0 {
				t.Fatal(n)
			}
			ahead := d.Deeds()
			commit(t, j)
			if d.Deeds() != ahead+1 {
				t.Fatal("what went is committed")
			}
			other := append(slices.Clone(l[:k]), "Z", strings.Repeat("Y", 90))
			add(t, j, other[k:]...)
			counts(t, j, 6, 64, 2, other)
			commit(t, j)
			counts(t, open(t, d, 0, 6, 5), 6, 64, 0, other)
			for i := range 6 {
				if _, end := places(60, other); i*60 < end {
					see(t, d, i, sector(64, 5, other, i))
				} else {
					see(t, d, i, "")
				}
			}
		}
	}
}

// P9.3: no records, another epoch, and no deed; sectors of the epoch ahead
// stay till they are written over, and end the row.
func TestReset(t *testing.T) {
	d := fresh(t, 6, 64, nil)
	j := open(t, d, 1, 6, 5)
	old := letters(3, 100, 20)
	add(t, j, old...)
	commit(t, j)
	add(t, j, "pending")
	ahead := d.Deeds()
	for _, epoch := range []uint32{9, math.MaxUint32, 0, 6} {
		if e := j.Reset(epoch); e != api.OK {
			t.Fatal(e)
		}
		counts(t, j, 5, 64, 0, nil)
		add(t, j, "pending")
	}
	j.Reset(6)
	if n := j.Drop(); n != 0 || d.Deeds() != ahead || d.Waits() != 0 {
		t.Fatalf("%d went, %d deeds", n, d.Deeds()-ahead)
	}
	counts(t, open(t, d, 1, 6, 5), 5, 64, 0, old)
	counts(t, open(t, d, 1, 6, 6), 5, 64, 0, nil)
	add(t, j, "new")
	commit(t, j)
	see(t, d, 1, sector(64, 6, []string{"new"}, 0))
	see(t, d, 2, sector(64, 5, old, 1))
	see(t, d, 3, sector(64, 5, old, 2))
	counts(t, j, 5, 64, 0, []string{"new"})
	counts(t, open(t, d, 1, 6, 6), 5, 64, 0, []string{"new"})
	see(t, d, 2, sector(64, 5, old, 1))
	counts(t, open(t, d, 1, 6, 5), 5, 64, 0, nil) // its first sector is gone, and the others are made 0
	see(t, d, 2, "")
	see(t, d, 3, "")
}

// R4: what is told, and what was handed in, is the caller's.
func TestCallersBytes(t *testing.T) {
	d := fresh(t, 4, 64, nil)
	j := open(t, d, 0, 4, 5)
	b := []byte("handed in")
	add(t, j, "ahead")
	if e := j.Add(b); e != api.OK || string(b) != "handed in" {
		t.Fatal(e)
	}
	spoil(b)
	add(t, j, "behind")
	want := []string{"ahead", "handed in", "behind"}
	for range 2 {
		for _, told := range j.Records() {
			spoil(append(told, "over and over"...))
			spoil(told)
		}
		has(t, j, want...)
	}
	commit(t, j)
	k := open(t, d, 0, 4, 5)
	for _, told := range k.Records() {
		spoil(append(told, "over and over"...))
		spoil(told)
	}
	has(t, k, want...)
	has(t, open(t, d, 0, 4, 5), want...)
}

// spoil writes over all bytes.
func spoil(b []byte) {
	for i := range b {
		b[i] = '!'
	}
}

// The Way of the journal: a row that is cut doesn't grow over what stands
// behind it, be it what was read, or what was dropped.
func TestCutRow(t *testing.T) {
	d := fresh(t, 4, 64, nil)
	j := open(t, d, 0, 4, 5)
	add(t, j, "kept")
	commit(t, j)
	add(t, j, "dropped")
	copied := *j
	j.Drop()
	add(t, j, "another")
	has(t, &copied, "kept", "dropped")
	has(t, j, "kept", "another")
}

// P9.1: where records end.
func TestOpenEnds(t *testing.T) {
	good := sealed(5, "good")
	blank := strings.Repeat("\x00", 60)
	field := func(s string) string { return s + blank[len(s):] }
	long := sealed(5, strings.Repeat("x", 60+60-12-16))
	for i, x := range []struct {
		fields []string // of three sectors of the epoch 5, then one of another epoch
		want   []string
	}{
		{nil, nil},
		{[]string{field(good)}, []string{"good"}},
		{[]string{field("\x00" + good)}, nil},                                                // not at the beginning
		{[]string{blank, field(good)}, nil},                                                  // nor there
		{[]string{field(good + "\x00" + good)}, []string{"good"}},                            // a gap
		{[]string{field(good + good + good)}, []string{"good", "good", "good"}},              // 48 bytes: 12 are left
		{[]string{field(good + good + good), field(good)}, []string{"good", "good", "good"}}, // so that the next one isn't begun behind
		{[]string{good + good + good + sealed(5, ""), field(good)}, []string{"good", "good", "good", "", "good"}},
		{[]string{field(sealed(5, strings.Repeat("x", 37))), field(good)}, []string{strings.Repeat("x", 37), "good"}},   // 11 are left
		{[]string{field(sealed(5, strings.Repeat("x", 36))), field(good)}, []string{strings.Repeat("x", 36)}},           // 12 are left
		{[]string{sealed(5, strings.Repeat("x", 37)) + good[:11], field(good[11:])}, []string{strings.Repeat("x", 37)}}, // begun where too few are left
		{[]string{field(sealed(5, strings.Repeat("x", 36)) + good[:12]), field(good[12:])}, []string{strings.Repeat("x", 36), "good"}},
		{[]string{good + long[:44], field(long[44:])}, []string{"good", strings.Repeat("x", 92)}},
		{[]string{good + long[:44]}, []string{"good"}},                           // the rest is of another epoch
		{[]string{good + long[:44], field("?" + long[45:])}, []string{"good"}},   // a byte is turned
		{[]string{field(sealed(4, "other")), field(good)}, nil},                  // another epoch's
		{[]string{field(good + sealed(6, "other") + good)}, []string{"good"}},    // likewise
		{[]string{field(good + "\xff\xff\xff\xff" + good)}, []string{"good"}},    // a length that can't be
		{[]string{field("\x10\x00\x00\x80" + good[4:])}, nil},                    // likewise
		{[]string{field(good + good[:4] + "????" + good[8:])}, []string{"good"}}, // another sum
		{[]string{field(sealed(5, "")), blank, field(good)}, []string{""}},
	} {
		has := map[int]string{}
		for n := range 3 {
			if n < len(x.fields) {
				has[1+n] = number(5) + x.fields[n]
			} else {
				has[1+n] = number(7) + field(good)
			}
		}
		has[4] = number(9) + field(good)
		d := fresh(t, 6, 64, has)
		j := open(t, d, 1, 5, 5)
		if l := records(j); !slices.Equal(l, x.want) {
			t.Errorf("%d: %q; asked for %q", i, l, x.want)
			continue
		}
		counts(t, j, 4, 64, 0, x.want)
	}
}

// P9.1: sectors of other epochs stand between, and the records end there; such
// as have the epoch in other bytes are of another one.
func TestOpenEpochs(t *testing.T) {
	l := letters(100, 100)
	for _, other := range []uint32{0, 4, 6, 0x05000000, 0x00000500, 0x00050005, 0x80000005, math.MaxUint32} {
		for gap := range 4 {
			on := map[int]string{}
			for i := range 4 {
				on[i] = sector(64, 5, l, i)
			}
			on[gap] = number(other) + on[gap][4:]
			want := [][]string{nil, nil, l[:1], l[:1]}[gap]
			d := fresh(t, 5, 64, on)
			counts(t, open(t, d, 0, 5, 5), 5, 64, 0, want)
			see(t, d, gap, on[gap])
		}
	}
}

// P9.1: sectors of the epoch behind the records are made 0, wherever they
// stand, those of other epochs not; what stands behind the last record in its
// own sector stays.
func TestOpenDeeds(t *testing.T) {
	l := letters(20, 60)
	own, other := number(5)+strings.Repeat("\x77", 60), number(6)+strings.Repeat("\x77", 60)
	first, second := sector(64, 5, l, 0), sector(64, 5, l, 1)
	dirty := second[:60] + "\xff\xff\xff\xff"
	for i, x := range []struct {
		sectors []string
		cleared []int
		want    []string
	}{
		{[]string{"", "", "", "", ""}, nil, nil},
		{[]string{other, other, other, other, other}, nil, nil},
		{[]string{own, own, own, own, own}, []int{0, 1, 2, 3, 4}, nil},
		{[]string{own, other, own, "", own}, []int{0, 2, 4}, nil},
		{[]string{number(5), "", "", "", ""}, []int{0}, nil},
		{[]string{"", "", "", "", own}, []int{4}, nil},
		{[]string{first, second, "", "", ""}, nil, l},
		{[]string{first, dirty, other, other, other}, nil, l},
		{[]string{first, second, own, own, own}, []int{2, 3, 4}, l},
		{[]string{first, second, other, own, other}, []int{3}, l},
		{[]string{first, dirty, first, second, ""}, []int{2, 3}, l},
		{[]string{first, other, second, other, own}, []int{2, 4}, l[:1]}, // the first sector has bytes of the second record, too, which isn't there
		{[]string{first, own, second, "", ""}, []int{1, 2}, l[:1]},
		{[]string{other, first, second, "", ""}, []int{1, 2}, nil},
		{[]string{sector(64, 5, letters(48), 0), number(5), number(5), "", ""}, []int{1, 2}, letters(48)}, // just full
	} {
		on := map[int]string{0: own, 6: own}
		for n, s := range x.sectors {
			on[1+n] = s
		}
		var deeds []deed
		for _, n := range x.cleared {
			deeds = append(deeds, deed{i: 1 + n})
		}
		if len(deeds) > 0 {
			deeds = append(deeds, deed{flush: true})
		}
		call := func(d *disk.Disk) api.Errno {
			j, e := Open(d, 1, 6, 5)
			if (j == nil) != (e != api.OK) {
				t.Errorf("%d: error %d with a journal, or none with none", i, e)
			}
			if e == api.OK {
				counts(t, j, 5, 64, 0, x.want)
			}
			return e
		}
		does(t, 7, 64, on, call, deeds)
	}
}

// P9.1: of the epoch 0 are sectors that were never written, too, and they are
// written full of 0 likewise, as the words say.
func TestOpenOfEpoch0(t *testing.T) {
	deeds := []deed{{i: 1}, {i: 2}, {i: 3}, {flush: true}}
	does(t, 5, 64, nil, func(d *disk.Disk) api.Errno {
		_, e := Open(d, 1, 4, 0)
		return e
	}, deeds)
	d := fresh(t, 4, 64, nil)
	j := open(t, d, 0, 4, 0)
	add(t, j, "", strings.Repeat("\x00", 90))
	commit(t, j)
	counts(t, open(t, d, 0, 4, 0), 4, 64, 0, []string{"", strings.Repeat("\x00", 90)})
}

// P9.1: a record that is added behind what was read wrongly stands alone.
func TestWritesOverWhatStandsBehind(t *testing.T) {
	l := letters(20)
	s := sector(64, 5, l, 0)
	d := fresh(t, 2, 64, map[int]string{0: s[:36] + strings.Repeat("\xff", 28), 1: number(5) + strings.Repeat("\xff", 60)})
	j := open(t, d, 0, 2, 5)
	add(t, j, "b")
	commit(t, j)
	see(t, d, 0, sector(64, 5, []string{l[0], "b"}, 0))
	see(t, d, 1, "")
}

// The chapter's example.
func TestExample(t *testing.T) {
	d := fresh(t, 3, 64, nil)
	j := open(t, d, 0, 3, 1)
	add(t, j, "a", "b")
	commit(t, j)
	add(t, j, "c")
	d.Crash(math.MaxUint64)
	has(t, open(t, d, 0, 3, 1), "a", "b")
}

// drawn is so many records of lengths that are drawn.
func drawn(r *rand.Rand, most int) []string {
	var l []string
	for range r.Intn(5) {
		b := make([]byte, r.Intn(most))
		r.Read(b)
		l = append(l, string(b))
	}
	return l
}

// P9.2, P9.3: calls that are drawn, held against the model.
func TestDrawnCalls(t *testing.T) {
	r := rand.New(rand.NewSource(91))
	for range 300 {
		size, sectors, from := 64+r.Intn(60), 1+r.Intn(8), r.Intn(3)
		d := fresh(t, from+sectors+2, size, nil)
		epoch := uint32(1 + r.Intn(3))
		j := open(t, d, from, from+sectors, epoch)
		var l []string
		kept := 0
		for range 40 {
			switch r.Intn(6) {
			case 0:
				commit(t, j)
				kept = len(l)
			case 1:
				if n := j.Drop(); n != len(l)-kept {
					t.Fatalf("%d went of %d", n, len(l)-kept)
				}
				l = l[:kept]
			case 2:
				if r.Intn(5) == 0 {
					epoch += uint32(1 + r.Intn(300))
					j.Reset(epoch)
					l, kept = nil, 0
				}
			case 3:
				j, l = open(t, d, from, from+sectors, epoch), l[:kept]
			default:
				for _, s := range drawn(r, size*2) {
					_, end := places(size-4, append(slices.Clone(l), s))
					e := j.Add([]byte(s))
					if (e == api.OK) != (end <= sectors*(size-4)) || e != api.OK && e != api.ErrFull {
						t.Fatalf("to %d of %d: error %d", end, sectors*(size-4), e)
					}
					if e == api.OK {
						l = append(l, s)
					}
				}
			}
			counts(t, j, sectors, size, len(l)-kept, l)
		}
		for i := range from {
			see(t, d, i, "")
		}
		see(t, d, from+sectors, "")
		see(t, d, from+sectors+1, "")
	}
}

// reopen opens again behind a crash, going dark and crashing some times more
// while it does.
func reopen(t *testing.T, r *rand.Rand, d *disk.Disk, from, to int, epoch uint32) *Journal {
	t.Helper()
	for range r.Intn(4) {
		d.Fuse(r.Intn(5))
		j, e := Open(d, from, to, epoch)
		if e != api.OK && (e != api.ErrDown || j != nil) {
			t.Fatal(e)
		}
		d.Crash(r.Uint64())
	}
	return open(t, d, from, to, epoch)
}

// P9.4: many crashes, one behind the other, while records are committed and
// while it is opened, in journals that were reset, too.
func TestManyCrashes(t *testing.T) {
	r := rand.New(rand.NewSource(92))
	for range 2000 {
		size, sectors := 64+r.Intn(20), 1+r.Intn(8)
		d := fresh(t, sectors+2, size, nil)
		epoch := uint32(1)
		j := open(t, d, 1, sectors+1, epoch)
		var kept []string
		for range 30 {
			added := tried(j, drawn(r, size*2))
			d.Fuse(r.Intn(sectors+4) - 1)
			e := j.Commit()
			d.Crash(r.Uint64() & r.Uint64())
			j = reopen(t, r, d, 1, sectors+1, epoch)
			l := records(j)
			all := append(slices.Clone(kept), added...)
			if !slices.Equal(l, all) && (e == api.OK || !slices.Equal(l, kept)) {
				t.Fatalf("behind %d, committed %d with error %d: %d", len(kept), len(added), e, len(l))
			}
			kept = l
			counts(t, j, sectors, size, 0, kept)
			if r.Intn(6) == 0 {
				epoch++
				j.Reset(epoch)
				kept = nil
			}
		}
	}
}

// tried adds those that have room, and tells them.
func tried(j *Journal, l []string) []string {
	var added []string
	for _, s := range l {
		if j.Add([]byte(s)) == api.OK {
			added = append(added, s)
		}
	}
	return added
}

// P9.4: every deed of a commit, with every pattern of what waits there, and
// behind it every deed of the opening.
func TestEveryCrash(t *testing.T) {
	kept, added := letters(5, 70), []string{"x", strings.Repeat("y", 130), "z"}
	all := append(slices.Clone(kept), added...)
	deeds := commits(64, 0, 3, all, len(kept))
	for fuse := range len(deeds) + 1 {
		for pattern := range uint64(16) {
			for second := range 6 {
				for again := range uint64(16) {
					d := fresh(t, 7, 64, nil)
					j := open(t, d, 0, 7, 3)
					add(t, j, kept...)
					commit(t, j)
					add(t, j, added...)
					d.Fuse(fuse)
					e := j.Commit()
					d.Crash(pattern)
					d.Fuse(second)
					Open(d, 0, 7, 3)
					d.Crash(again)
					want := kept
					if e == api.OK || fuse == len(deeds)-1 && pattern&1 == 1 {
						want = all
					}
					counts(t, open(t, d, 0, 7, 3), 7, 64, 0, want)
				}
			}
		}
	}
}

// P9.4: what was being committed and went doesn't come back when something
// else is committed in its stead.
func TestWhatWentStaysAway(t *testing.T) {
	d := fresh(t, 6, 64, nil)
	j := open(t, d, 0, 6, 3)
	add(t, j, strings.Repeat("a", 48), strings.Repeat("b", 48), strings.Repeat("c", 48), strings.Repeat("d", 48))
	d.Fuse(4) // the sectors 1, 2, 3 last, the first one is not written
	if e := j.Commit(); e != api.ErrDown {
		t.Fatal(e)
	}
	d.Crash(0)
	see(t, d, 0, "")
	see(t, d, 2, number(3)+sealed(3, strings.Repeat("c", 48)))
	j = open(t, d, 0, 6, 3)
	has(t, j)
	add(t, j, strings.Repeat("e", 48))
	commit(t, j)
	has(t, open(t, d, 0, 6, 3), strings.Repeat("e", 48))
}

// R1: a journal whose commit failed still answers, and so it does on a dark
// disk; a disk that isn't one any more tells its error.
func TestBehindAnError(t *testing.T) {
	for fuse := range 4 {
		d := fresh(t, 6, 64, nil)
		j := open(t, d, 0, 6, 3)
		add(t, j, letters(100)...)
		d.Fuse(fuse)
		for range 3 {
			if e := j.Commit(); e != api.ErrDown {
				t.Fatal(e)
			}
			j.Records()
			j.Add([]byte("more"))
			j.Room()
			j.Drop()
			j.Reset(9)
			j.Add([]byte("more"))
		}
		*d = disk.Disk{}
		if e := j.Commit(); e != api.ErrArg {
			t.Error(e)
		}
	}
}

// R1: at sectors that are drawn, and at such as have records of which some
// bytes were drawn.
func TestDrawnSectors(t *testing.T) {
	r := rand.New(rand.NewSource(93))
	for range 5000 {
		size, sectors := 64+r.Intn(20), 1+r.Intn(5)
		epoch := uint32(r.Intn(3))
		l := drawn(r, size)
		on := map[int]string{}
		for i := range sectors {
			b := []byte(sector(size, epoch, l, i))
			for range r.Intn(3) {
				b[r.Intn(size)] = byte(r.Intn(256))
			}
			on[i] = string(b)
		}
		d := fresh(t, sectors, size, on)
		j := open(t, d, 0, sectors, epoch)
		got := records(j)
		counts(t, j, sectors, size, 0, got)
		if k := records(open(t, d, 0, sectors, epoch)); !slices.Equal(k, got) {
			t.Fatalf("%q, then %q", got, k)
		}
		b := row(size-4, epoch, got)
		for i := range (len(b) + size - 5) / (size - 4) {
			part := b[i*(size-4) : min(len(b), (i+1)*(size-4))]
			if s, _ := d.Read(i); !strings.HasPrefix(string(s), number(epoch)) || !stands(string(s[4:]), part) {
				t.Fatalf("sector %d: %x; asked for %x", i, s, part)
			}
		}
	}
}

// stands says whether a field has these bytes, wherever they aren't 0: what is
// left ahead of a field's end may be anything.
func stands(field, part string) bool {
	for i := range len(part) {
		if part[i] != 0 && part[i] != field[i] {
			return false
		}
	}
	return true
}
