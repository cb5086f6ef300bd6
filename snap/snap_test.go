package snap

import (
	"math"
	"math/rand"
	"slices"
	"strings"
	"testing"

	"needlebeam/api"
	"needlebeam/disk"
	"needlebeam/page"
)

// two is a number in two bytes, the lowest first.
func two(n int) string {
	return string([]byte{byte(n % 256), byte(n / 256)})
}

// zeros are so many bytes of 0.
func zeros(n int) string {
	return strings.Repeat("\x00", n)
}

// run is so many bytes, of which each is another one than the next.
func run(n int) string {
	b := make([]byte, n)
	for i := range b {
		b[i] = byte(i*7 + n)
	}
	return string(b)
}

// pageOf is the bytes of a page with these pieces; a text without bytes is an
// empty slot.
func pageOf(size int, pieces ...string) string {
	slots, behind := string([]byte{byte(len(pieces))}), ""
	for _, s := range pieces {
		behind = s + behind
		if s == "" {
			slots += zeros(4)
		} else {
			slots += two(size-len(behind)) + two(len(s))
		}
	}
	return slots + zeros(size-len(slots)-len(behind)) + behind
}

// room says whether a page with these pieces has room for one of so many bytes,
// and a slot.
func room(size int, pieces []string, n int) bool {
	used := 1
	for _, s := range pieces {
		used += 4 + len(s)
	}
	return used+4+n <= size && len(pieces) < 250
}

// snapshot is the pieces of each page that records have, as the words say it; a
// part grows byte by byte.
func snapshot(size int, l []string) [][]string {
	var left [][]string // the pages that were left
	var pieces []string
	leave := func(least int) {
		if !room(size, pieces, least) {
			left = append(left, pieces)
			pieces = nil
		}
	}
	for _, s := range l {
		if s == "" {
			leave(1)
			pieces = append(pieces, "\x00")
		}
		for s != "" {
			leave(2)
			n := 1
			for n < len(s) && room(size, pieces, n+2) {
				n++
			}
			mark := "\x01"
			if n == len(s) {
				mark = "\x00"
			}
			pieces = append(pieces, mark+s[:n])
			s = s[n:]
		}
	}
	if pieces != nil {
		left = append(left, pieces)
	}
	return left
}

// recordsOf are the records of pages with these pieces; false, if there are
// none.
func recordsOf(pages [][]string) ([]string, bool) {
	var l []string
	record, whole := "", true
	for _, pieces := range pages {
		for _, s := range pieces {
			if s == "" || s[0] > 1 {
				return nil, false
			}
			record += s[1:]
			whole = s[0] == 0
			if whole {
				l = append(l, record)
				record = ""
			}
		}
	}
	return l, whole
}

// rows are the texts' bytes; a text without bytes has none, or a list without
// items.
func rows(l []string) [][]byte {
	var b [][]byte
	for i, s := range l {
		b = append(b, []byte(s))
		if s == "" && i%2 == 0 {
			b[i] = nil
		}
	}
	return b
}

// texts are the bytes of the rows.
func texts(b [][]byte) []string {
	var l []string
	for _, s := range b {
		l = append(l, string(s))
	}
	return l
}

// fresh is a new disk whose sectors are full of 255, and last.
func fresh(t *testing.T, sectors, size int) *disk.Disk {
	t.Helper()
	d, e := disk.New(sectors, size)
	if e != api.OK {
		t.Fatal(e)
	}
	for i := range sectors {
		put(t, d, i, strings.Repeat("\xff", size))
	}
	d.Flush()
	return d
}

// put writes what must go to a sector.
func put(t *testing.T, d *disk.Disk, i int, s string) {
	t.Helper()
	if e := d.Write(i, []byte(s)); e != api.OK {
		t.Fatal(e)
	}
}

// dark is that disk, gone dark.
func dark(d *disk.Disk) *disk.Disk {
	d.Fuse(0)
	d.Flush()
	return d
}

// see asks for the bytes of a sector.
func see(t *testing.T, d *disk.Disk, i int, want string) {
	t.Helper()
	if b, e := d.Read(i); string(b) != want || e != api.OK {
		t.Fatalf("sector %d: %x, error %d; asked for %x", i, b, e, want)
	}
}

// sees asks whether just these pages stand from one sector on, and 255 in all
// others.
func sees(t *testing.T, d *disk.Disk, from int, pages [][]string) {
	t.Helper()
	for i := range d.Sectors() {
		want := strings.Repeat("\xff", d.Size())
		if i >= from && i < from+len(pages) {
			want = pageOf(d.Size(), pages[i-from]...)
		}
		see(t, d, i, want)
	}
}

// tells asks for the records of so many sectors; asking does no deed.
func tells(t *testing.T, d *disk.Disk, from, n int, want ...string) {
	t.Helper()
	deeds, waits := d.Deeds(), d.Waits()
	l, e := Read(d, from, n)
	if e != api.OK || !slices.Equal(texts(l), want) {
		t.Fatalf("%d records %.300q, error %d; asked for %d %.300q", len(l), l, e, len(want), want)
	}
	if d.Deeds() != deeds || d.Waits() != waits {
		t.Fatal("reading did deeds")
	}
}

// refuses asks whether these sectors have no records, for that reason.
func refuses(t *testing.T, d *disk.Disk, from, n int, want api.Errno) {
	t.Helper()
	if l, e := Read(d, from, n); l != nil || e != want {
		t.Fatalf("sectors from %d, %d: %.300q, error %d; asked for error %d", from, n, l, e, want)
	}
}

// holds asks whether the records are written where they must be, and read again.
func holds(t *testing.T, size int, l []string) {
	t.Helper()
	pages := snapshot(size, l)
	if n := Sectors(size, rows(l)); n != len(pages) {
		t.Fatalf("%d sectors; asked for %d", n, len(pages))
	}
	from := len(l) % 3
	d := fresh(t, from+len(pages)+2, size)
	deeds := d.Deeds()
	n, e := Write(d, from, from+max(len(pages), 1), rows(l))
	if n != len(pages) || e != api.OK {
		t.Fatalf("%d sectors, error %d; asked for %d", n, e, len(pages))
	}
	if d.Deeds() != deeds+n || d.Waits() != n {
		t.Fatalf("%d deeds, %d wait; asked for %d", d.Deeds()-deeds, d.Waits(), n)
	}
	sees(t, d, from, pages)
	tells(t, d, from, n, l...)
}

// edges are lists with which parts end where a page's room does, or near it.
func edges(size int) [][]string {
	most := size - 6 // bytes of the one part of a page
	var ends []int
	for _, pages := range []int{1, 2, 3} {
		for near := -8; near <= 8; near++ {
			ends = append(ends, pages*most+near)
		}
	}
	all := [][]string{nil, {""}, {"a"}, {"\x00"}, {"\x01"}, {"\xff"}, {"", "", ""}, {"a", "", "b"}, {"", "a", ""}}
	for _, first := range append(ends, 0, 1, 2) {
		for _, second := range []int{0, 1, 2, 3, 7, most - 1, most, most + 1, 2*most + 1} {
			all = append(all, []string{run(first), run(second)}, []string{run(first), run(second), "", "x"}, []string{"", run(first), run(second)})
		}
	}
	for _, n := range []int{0, 1, 2, 3, 5} {
		for _, times := range []int{size / (5 + n), size/(5+n) + 1, size, 3 * size} {
			all = append(all, slices.Repeat([]string{run(n)}, times))
		}
	}
	return all
}

// P11.1, P11.3: at all edges of pages, of sectors of any size.
func TestEdges(t *testing.T) {
	for _, size := range []int{64, 65, 70, 100, 255, 256, 300, 1023, 1024} {
		for _, l := range edges(size) {
			holds(t, size, l)
		}
	}
}

// P11.1: the bytes written out.
func TestBytes(t *testing.T) {
	d := fresh(t, 6, 64)
	long := run(100)
	n, e := Write(d, 2, 5, rows([]string{"one", "", long, "last"}))
	if n != 3 || e != api.OK {
		t.Fatal(n, e)
	}
	see(t, d, 1, strings.Repeat("\xff", 64))
	see(t, d, 2, "\x03\x3c\x00\x04\x00\x3b\x00\x01\x00\x0d\x00\x2e\x00"+"\x01"+long[:45]+"\x00"+"\x00one")
	see(t, d, 3, "\x01\x08\x00\x38\x00"+zeros(3)+"\x00"+long[45:])
	see(t, d, 4, "\x01\x3b\x00\x05\x00"+zeros(54)+"\x00last")
	see(t, d, 5, strings.Repeat("\xff", 64))
}

// P11.1: which page has what comes where one has room for a piece of 2 bytes,
// of 1 byte, and of none.
func TestLeft(t *testing.T) {
	for _, x := range []struct {
		ahead, record string
		pages         []string
	}{
		{run(52), "", []string{pageOf(64, "\x00"+run(52), "\x00")}},
		{run(52), "a", []string{pageOf(64, "\x00"+run(52), "\x00a")}},
		{run(52), "ab", []string{pageOf(64, "\x00"+run(52), "\x01a"), pageOf(64, "\x00b")}},
		{run(53), "", []string{pageOf(64, "\x00"+run(53), "\x00")}},
		{run(53), "a", []string{pageOf(64, "\x00"+run(53)), pageOf(64, "\x00a")}},
		{run(53), "ab", []string{pageOf(64, "\x00"+run(53)), pageOf(64, "\x00ab")}},
		{run(54), "", []string{pageOf(64, "\x00"+run(54)), pageOf(64, "\x00")}},
		{run(54), "a", []string{pageOf(64, "\x00"+run(54)), pageOf(64, "\x00a")}},
		{run(57), "", []string{pageOf(64, "\x00"+run(57)), pageOf(64, "\x00")}},
		{run(58), "", []string{pageOf(64, "\x00"+run(58)), pageOf(64, "\x00")}},
		{run(59), "", []string{pageOf(64, "\x01"+run(59)[:58]), pageOf(64, "\x00"+run(59)[58:], "\x00")}},
	} {
		d := fresh(t, 3, 64)
		n, e := Write(d, 0, 3, rows([]string{x.ahead, x.record}))
		if n != len(x.pages) || e != api.OK {
			t.Fatalf("%q behind %d bytes: %d sectors, error %d", x.record, len(x.ahead), n, e)
		}
		for i, s := range x.pages {
			see(t, d, i, s)
		}
		tells(t, d, 0, n, x.ahead, x.record)
	}
}

// P11.1: a page without a slot left is left. None of MaxSector bytes has as
// many pieces, so that the words are asked alone.
func TestSlotsLeft(t *testing.T) {
	if (api.MaxSector-1)/headSize >= api.MaxSlots {
		t.Error("a page may have all slots: write one")
	}
	s := space{slots: 2, room: 3*headSize + 10}
	for want := 2; want > 0; want-- {
		if !s.takes(0) || !s.takes(10) || s.slots != want {
			t.Fatal(s)
		}
		s.take(0)
	}
	if s.takes(0) || s.takes(1) || s.room != headSize+10 {
		t.Error(s)
	}
}

// P11.1: the sectors of sizes that no page has.
func TestSectorsOfNoPage(t *testing.T) {
	for _, l := range [][]string{nil, {}, {""}, {"a"}, {run(100), ""}, {run(5000)}} {
		for _, size := range []int{math.MinInt, math.MinInt32, -1024, -64, -1, 0, 1, 5, 6, 10, 62, 63, 1025, 1026, 2048, 65536, 1 << 32, 1<<32 + 64, math.MaxInt} {
			if n := Sectors(size, rows(l)); n != 0 {
				t.Errorf("%d records, size %d: %d", len(l), size, n)
			}
		}
	}
}

// P11.1: more sectors than any disk has are counted, too.
func TestSectorsOfMany(t *testing.T) {
	for _, x := range []struct {
		size int
		l    []string
		want int
	}{
		{64, []string{strings.Repeat("a", 58*5000)}, 5000},
		{64, []string{strings.Repeat("a", 58*5000+1)}, 5001},
		{1024, slices.Repeat([]string{""}, 204*5000), 5000},
		{1024, slices.Repeat([]string{""}, 204*5000+1), 5001},
		{1024, []string{strings.Repeat("a", 1018*5000), "", "b"}, 5001},
	} {
		if n := Sectors(x.size, rows(x.l)); n != x.want {
			t.Errorf("%d records, size %d: %d; asked for %d", len(x.l), x.size, n, x.want)
		}
		d := fresh(t, 600, x.size)
		if n, e := Write(d, 0, 600, rows(x.l)); n != 0 || e != api.ErrFull || d.Waits() != 0 {
			t.Errorf("%d sectors, error %d, %d wait", n, e, d.Waits())
		}
	}
}

// wrong are areas that can't be on a disk of 6 sectors, right are such as can.
func wrong() [][2]int {
	return [][2]int{{-1, 3}, {-1, 0}, {-2, -1}, {0, 0}, {3, 3}, {4, 2}, {1, 0}, {0, -1}, {0, 7}, {5, 7}, {6, 6}, {6, 7}, {7, 8}, {math.MinInt, 3}, {math.MinInt, math.MaxInt}, {0, math.MaxInt}, {math.MaxInt, math.MinInt}, {0, math.MinInt}, {math.MaxInt - 1, math.MaxInt}, {math.MinInt, math.MinInt + 1}}
}

func right() [][2]int {
	return [][2]int{{0, 1}, {0, 6}, {5, 6}, {2, 5}}
}

// refused asks whether nothing is written, for that reason.
func refused(t *testing.T, d *disk.Disk, x [2]int, l []string, want api.Errno) {
	t.Helper()
	deeds, waits := d.Deeds(), d.Waits()
	if n, e := Write(d, x[0], x[1], rows(l)); n != 0 || e != want {
		t.Errorf("%v, %d records: %d sectors, error %d; asked for error %d", x, len(l), n, e, want)
	}
	if d.Deeds() != deeds || d.Waits() != waits {
		t.Errorf("%v, %d records: deeds were done", x, len(l))
	}
}

// P11.1: the first error that holds: no disk, what can't be, no room, the
// disk's.
func TestWriteRefused(t *testing.T) {
	short, long := []string{"a", ""}, []string{run(58*6 + 1)}
	for _, l := range [][]string{nil, short, long} {
		for _, x := range append(wrong(), right()...) {
			refused(t, nil, x, l, api.ErrNil)
			refused(t, &disk.Disk{}, x, l, api.ErrArg)
		}
		for _, d := range []*disk.Disk{fresh(t, 6, 64), dark(fresh(t, 6, 64))} {
			for _, x := range wrong() {
				refused(t, d, x, l, api.ErrArg)
			}
		}
	}
	for _, d := range []*disk.Disk{fresh(t, 6, 64), dark(fresh(t, 6, 64))} {
		for _, x := range right() {
			refused(t, d, x, long, api.ErrFull)
		}
		d.Crash(0)
		sees(t, d, 0, nil)
	}
	for _, x := range right() {
		refused(t, dark(fresh(t, 6, 64)), x, short, api.ErrDown)
	}
}

// P11.1: as many sectors as the area has, and one more; what waits ahead isn't
// touched.
func TestFull(t *testing.T) {
	for _, size := range []int{64, 100, 1024} {
		for most := 1; most <= 4; most++ {
			for _, tail := range [][]string{nil, {""}, {"a"}, {run(size)}} {
				exact := []string{run(most * (size - 6))}
				d := fresh(t, 8, size)
				put(t, d, 0, "waits")
				if n, e := Write(d, 2, 2+most, rows(exact)); n != most || e != api.OK {
					t.Fatalf("%d sectors of %d, error %d", n, most, e)
				}
				more := append(exact, tail...)
				if tail == nil {
					more = []string{exact[0] + "a"}
				}
				refused(t, d, [2]int{2, 2 + most}, more, api.ErrFull)
				if d.Waits() != most+1 {
					t.Fatal(d.Waits())
				}
				tells(t, d, 2, most, exact...)
				if n, e := Write(d, 2, 8, rows(more)); n != len(snapshot(size, more)) || n <= most || e != api.OK {
					t.Fatalf("%d sectors, error %d", n, e)
				}
				see(t, d, 0, "waits"+zeros(size-5))
			}
		}
	}
}

// P11.1: of a disk that goes dark the sectors ahead are written, rising; what
// wasn't flushed may be lost.
func TestDark(t *testing.T) {
	l := []string{"one", run(100), "", run(70), "last"}
	pages := snapshot(64, l)
	if len(pages) < 4 {
		t.Fatal(len(pages))
	}
	for fuse := range len(pages) + 2 {
		for _, pattern := range []uint64{0, 1, 2, 4, 5, 8, math.MaxUint64 - 1, math.MaxUint64} {
			d := fresh(t, 8, 64)
			deeds := d.Deeds()
			d.Fuse(fuse)
			n, e := Write(d, 2, 7, rows(l))
			done := min(fuse, len(pages))
			if done < len(pages) && (n != 0 || e != api.ErrDown) || done == len(pages) && (n != done || e != api.OK) {
				t.Fatalf("fuse %d: %d sectors, error %d", fuse, n, e)
			}
			if d.Deeds()-deeds != done || d.Waits() != done || d.Dark() != (done < len(pages)) {
				t.Fatalf("fuse %d: %d deeds, %d wait", fuse, d.Deeds()-deeds, d.Waits())
			}
			d.Crash(pattern)
			for i := range 8 {
				want := strings.Repeat("\xff", 64)
				if i >= 2 && i < 2+done && pattern>>(i-2)&1 == 1 {
					want = pageOf(64, pages[i-2]...)
				}
				see(t, d, i, want)
			}
		}
	}
}

// The chapter's example: nothing is written, or asked of the disk.
func TestNone(t *testing.T) {
	for _, size := range []int{64, 1024} {
		for _, l := range [][][]byte{nil, {}} {
			if n := Sectors(size, l); n != 0 {
				t.Error(n)
			}
			for _, d := range []*disk.Disk{fresh(t, 6, size), dark(fresh(t, 6, size))} {
				deeds := d.Deeds()
				for _, x := range right() {
					if n, e := Write(d, x[0], x[1], l); n != 0 || e != api.OK || d.Deeds() != deeds {
						t.Errorf("%d sectors, error %d", n, e)
					}
				}
				for from := range 7 {
					tells(t, d, from, 0)
				}
			}
		}
	}
	tells(t, &disk.Disk{}, 0, 0)
}

// P11.2: the first error that holds: no disk, what can't be, the disk's.
func TestReadRefused(t *testing.T) {
	no := [][2]int{{-1, 0}, {-1, 2}, {0, -1}, {3, -1}, {6, -1}, {0, 7}, {1, 6}, {5, 2}, {6, 1}, {7, 0}, {8, -2}, {7, -1}, {math.MaxInt, 0}, {0, math.MaxInt}, {math.MaxInt, math.MaxInt}, {math.MaxInt, 1}, {1, math.MaxInt}, {math.MinInt, math.MaxInt}, {math.MinInt, 0}, {0, math.MinInt}, {math.MinInt, math.MinInt}, {math.MaxInt, math.MinInt}, {math.MaxInt, -math.MaxInt}}
	yes := [][2]int{{0, 1}, {0, 6}, {5, 1}, {2, 3}}
	for _, x := range append(no, yes...) {
		refuses(t, nil, x[0], x[1], api.ErrNil)
		refuses(t, &disk.Disk{}, x[0], x[1], api.ErrArg)
	}
	d := fresh(t, 6, 64)
	for range 2 {
		for _, x := range no {
			refuses(t, d, x[0], x[1], api.ErrArg)
		}
		dark(d)
	}
	for _, x := range yes { // though no sector is a page
		refuses(t, d, x[0], x[1], api.ErrDown)
	}
	d.Crash(0)
	for _, x := range yes {
		refuses(t, d, x[0], x[1], api.ErrText)
	}
	if d.Deeds() != 7 || d.Waits() != 0 {
		t.Error("reading did deeds")
	}
}

// laid is a disk with these sectors from its second one on.
func laid(t *testing.T, size int, l ...string) *disk.Disk {
	t.Helper()
	d := fresh(t, len(l)+2, size)
	for i, s := range l {
		put(t, d, i+1, s)
	}
	return d
}

// P11.2: pages that are filled otherwise than Write does.
func TestReadOfOtherPages(t *testing.T) {
	none := zeros(64)
	for _, x := range []struct{ pages, want []string }{
		{[]string{none}, nil},
		{[]string{none, none, none}, nil},
		{[]string{pageOf(64, "\x00")}, []string{""}},
		{[]string{pageOf(64, "\x01", "\x00")}, []string{""}},
		{[]string{pageOf(64, "\x01", "\x01", "\x01", "\x00"), pageOf(64, "\x00")}, []string{"", ""}},
		{[]string{pageOf(64, "\x01a", "\x01b", "\x00c")}, []string{"abc"}},
		{[]string{pageOf(64, "\x01", "\x01a", "\x01", "\x00b")}, []string{"ab"}},
		{[]string{pageOf(64, "\x01a", "\x00")}, []string{"a"}},
		{[]string{pageOf(64, "\x01a"), none, none, pageOf(64, "\x00b", "\x00\x01")}, []string{"ab", "\x01"}},
		{[]string{none, pageOf(64, "\x00a"), none, pageOf(64, "\x00b"), none}, []string{"a", "b"}},
		{[]string{pageOf(64, "\x01a"), pageOf(64, "\x01b"), pageOf(64, "\x01c"), pageOf(64, "\x00d")}, []string{"abcd"}},
		{[]string{pageOf(64, "\x00\x00", "\x00\x01", "\x00\x02", "\x00\xff")}, []string{"\x00", "\x01", "\x02", "\xff"}},
		{[]string{pageOf(64, slices.Repeat([]string{"\x00"}, 12)...)}, slices.Repeat([]string{""}, 12)},
	} {
		d := laid(t, 64, x.pages...)
		tells(t, d, 1, len(x.pages), x.want...)
		d.Flush()
		tells(t, d, 1, len(x.pages), x.want...)
	}
}

// P11.2: all that is no snapshot, in the first page, in the last one, and
// between.
func TestReadOfNoSnapshot(t *testing.T) {
	good := pageOf(64, "\x00one", "\x00")
	if s := pageOf(64, "\x00one", "\x01"); s == good {
		t.Fatal("the pages are one")
	}
	for what, s := range map[string]string{
		"no page":                       strings.Repeat("\xff", 64),
		"no page, turned":               good[:30] + "\x01" + good[31:],
		"no page, slots":                "\x03" + good[1:],
		"no page, an empty slot at end": "\x01" + zeros(63),
		"an empty slot":                 pageOf(64, "", "\x00a"),
		"an empty slot between":         pageOf(64, "\x00a", "", "\x00b"),
		"an empty slot in a record":     pageOf(64, "\x01a", "", "\x00b"),
		"a piece with 2":                pageOf(64, "\x02a"),
		"a piece of 2 alone":            pageOf(64, "\x02"),
		"a piece with 3":                pageOf(64, "\x03a"),
		"a piece with 128":              pageOf(64, "\x80a"),
		"a piece with 129":              pageOf(64, "\x81a"),
		"a piece with 255":              pageOf(64, "\xffa"),
		"a piece with a letter":         pageOf(64, "0a"),
		"a piece behind others":         pageOf(64, "\x00a", "\x01b", "\x02c"),
		"a piece ahead of others":       pageOf(64, "\x02a", "\x01b", "\x00c"),
	} {
		t.Run(what, func(t *testing.T) {
			refuses(t, laid(t, 64, s), 1, 1, api.ErrText)
			refuses(t, laid(t, 64, s, good, good), 1, 3, api.ErrText)
			refuses(t, laid(t, 64, good, s, good), 1, 3, api.ErrText)
			refuses(t, laid(t, 64, good, good, s), 1, 3, api.ErrText)
			tells(t, laid(t, 64, good, good, s), 1, 2, "one", "", "one", "")
			tells(t, laid(t, 64, s, good, s), 2, 1, "one", "")
		})
	}
}

// P11.2: the last record has no last part.
func TestReadOfNoEnd(t *testing.T) {
	none, open := zeros(64), pageOf(64, "\x00a", "\x01b")
	for _, pages := range [][]string{
		{open}, {pageOf(64, "\x01")}, {pageOf(64, "\x01a")}, {none, open}, {open, none}, {open, none, none},
		{open, open}, {open, pageOf(64, "\x01c", "\x01")}, {open, pageOf(64, "\x00c", "\x01d")}, {pageOf(64, "\x00a", "\x01")},
	} {
		refuses(t, laid(t, 64, pages...), 1, len(pages), api.ErrText)
		tells(t, laid(t, 64, append(pages, pageOf(64, "\x00z"))...), 1, 0)
		if l, e := Read(laid(t, 64, append(pages, pageOf(64, "\x00z"))...), 1, len(pages)+1); e != api.OK || !strings.HasSuffix(string(l[len(l)-1]), "z") {
			t.Errorf("%q, error %d", l, e)
		}
	}
}

// P11.2: fewer sectors than were written, and more.
func TestReadOfSome(t *testing.T) {
	l := []string{"one", run(150), "", run(58), "last"}
	pages := snapshot(64, l)
	d := fresh(t, len(pages)+2, 64)
	if _, e := Write(d, 1, len(pages)+1, rows(l)); e != api.OK {
		t.Fatal(e)
	}
	refuses(t, d, 1, len(pages)+1, api.ErrText)
	refuses(t, d, 0, len(pages)+1, api.ErrText)
	for n := range len(pages) + 1 {
		for from := range len(pages) + 1 - n {
			if want, ok := recordsOf(pages[from : from+n]); ok {
				tells(t, d, 1+from, n, want...)
			} else {
				refuses(t, d, 1+from, n, api.ErrText)
			}
		}
	}
}

// P11.2: whichever bit is turned, it is refused, or is one of a part, or says
// whether another part follows.
func TestTurnedBits(t *testing.T) {
	pages := snapshot(64, []string{"a", "", run(70), "b"})
	good := []string{pageOf(64, pages[0]...), pageOf(64, pages[1]...)}
	for at := range 128 {
		for bit := range 8 {
			b := []byte(good[0] + good[1])
			b[at] ^= 1 << bit
			d := laid(t, 64, string(b[:64]), string(b[64:]))
			var turned [][]string
			for i := range 2 {
				p, e := page.Read(b[64*i : 64*i+64])
				if e != api.OK {
					break
				}
				var pieces []string
				for slot := range p.Slots() {
					s, _ := p.Get(slot)
					pieces = append(pieces, string(s))
				}
				turned = append(turned, pieces)
			}
			want, ok := recordsOf(turned)
			if ok && len(turned) == 2 {
				tells(t, d, 1, 2, want...)
			} else {
				refuses(t, d, 1, 2, api.ErrText)
			}
		}
	}
}

// P11.3: the greatest of disks, full of one record, of the smallest, and of
// records by turns; one byte more has no room.
func TestGreatest(t *testing.T) {
	d := fresh(t, api.MaxSectors, api.MaxSector)
	for _, l := range [][]string{
		{run(600 * 1018)},
		slices.Repeat([]string{""}, 600*204),
		append(slices.Repeat([]string{run(1018), run(508), run(505)}, 299), run(1018), run(1018)),
	} {
		if n := Sectors(1024, rows(l)); n != 600 {
			t.Fatal(n)
		}
		if n, e := Write(d, 0, 600, rows(l)); n != 600 || e != api.OK {
			t.Fatal(n, e)
		}
		tells(t, d, 0, 600, l...)
		l = append(slices.Clone(l), "")
		if n, e := Write(d, 0, 600, rows(l)); n != 0 || e != api.ErrFull {
			t.Error(n, e)
		}
	}
}

// R4: nothing is shared with what was handed in, or told, nor between records.
func TestApart(t *testing.T) {
	turn := func(b []byte) {
		for i := range b {
			b[i] ^= 0xff
		}
		_ = append(b, strings.Repeat("!", 200)...)
	}
	want := []string{"one", "two", "", run(100), "last"}
	whole := []byte(strings.Join(want, ""))
	var l [][]byte
	rest := whole
	for _, s := range want {
		l = append(l, rest[:len(s)])
		rest = rest[len(s):]
	}
	d := fresh(t, 8, 64)
	n, e := Write(d, 1, 8, l)
	if e != api.OK || Sectors(64, l) != n || !slices.Equal(texts(l), want) || string(whole) != strings.Join(want, "") {
		t.Fatalf("%d sectors, error %d, %q", n, e, l)
	}
	turn(whole)
	for i := range l {
		l[i] = nil
	}
	tells(t, d, 1, n, want...)
	got, _ := Read(d, 1, n)
	for i := range got {
		turn(got[i])
		for k := i + 1; k < len(got); k++ {
			if string(got[k]) != want[k] {
				t.Fatalf("record %d shares with record %d", k, i)
			}
		}
	}
	tells(t, d, 1, n, want...)
}

// P11.1, P11.3: records by chance, in areas by chance; a snapshot that is
// shorter leaves the sectors behind it as they were.
func TestChance(t *testing.T) {
	r := rand.New(rand.NewSource(11))
	for range 300 {
		size := []int{64, 65, 128, 777, 1024}[r.Intn(5)]
		sectors := 1 + r.Intn(30)
		d := fresh(t, sectors, size)
		has := map[int]string{}
		for range 10 {
			from := r.Intn(sectors)
			to := from + 1 + r.Intn(sectors-from)
			var l []string
			for range r.Intn(40) {
				most := []int{1, 3, 60, size, 3 * size}[r.Intn(5)]
				l = append(l, run(r.Intn(most+1)))
			}
			pages := snapshot(size, l)
			if n := Sectors(size, rows(l)); n != len(pages) {
				t.Fatalf("%d sectors; asked for %d", n, len(pages))
			}
			if len(pages) > to-from {
				refused(t, d, [2]int{from, to}, l, api.ErrFull)
				continue
			}
			if n, e := Write(d, from, to, rows(l)); n != len(pages) || e != api.OK {
				t.Fatalf("%d sectors, error %d; asked for %d", n, e, len(pages))
			}
			for i, pieces := range pages {
				has[from+i] = pageOf(size, pieces...)
			}
			for i := range sectors {
				if has[i] == "" {
					see(t, d, i, strings.Repeat("\xff", size))
				} else {
					see(t, d, i, has[i])
				}
			}
			tells(t, d, from, len(pages), l...)
		}
	}
}

// P11.2: pages by chance, of pieces with any marks.
func TestReadOfChance(t *testing.T) {
	r := rand.New(rand.NewSource(12))
	good := 0
	for range 20000 {
		var pages [][]string
		var sectors []string
		for range 1 + r.Intn(3) {
			var pieces []string
			for range r.Intn(4) {
				mark := "\x00\x00\x00\x00\x00\x01\x01\x01\x01\x01\x01\x02\xff"[r.Intn(13):][:1]
				pieces = append(pieces, mark+run(r.Intn(5)))
			}
			if len(pieces) > 1 && r.Intn(20) == 0 {
				pieces[r.Intn(len(pieces)-1)] = ""
			}
			pages = append(pages, pieces)
			sectors = append(sectors, pageOf(64, pieces...))
		}
		d := laid(t, 64, sectors...)
		if want, ok := recordsOf(pages); ok {
			good++
			tells(t, d, 1, len(pages), want...)
		} else {
			refuses(t, d, 1, len(pages), api.ErrText)
		}
	}
	if good < 4000 || good > 16000 {
		t.Errorf("%d of 20000 were good", good)
	}
}
