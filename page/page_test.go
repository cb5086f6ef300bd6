package page

import (
	"math"
	"math/rand"
	"slices"
	"strings"
	"testing"

	"needlebeam/api"
)

// two is a number in two bytes, the lowest first.
func two(n int) string {
	return string([]byte{byte(n % 256), byte(n / 256)})
}

// zeros are so many bytes of 0.
func zeros(n int) string {
	return strings.Repeat("\x00", n)
}

// ends are the bytes of the slots and of the pieces, as the words say them; a
// text without bytes is an empty slot.
func ends(size int, l []string) (string, string) {
	slots, pieces := string([]byte{byte(len(l))}), ""
	for _, s := range l {
		pieces = s + pieces
		if s == "" {
			slots += zeros(4)
		} else {
			slots += two(size-len(pieces)) + two(len(s))
		}
	}
	return slots, pieces
}

// roomOf is how many bytes lie between.
func roomOf(size int, l []string) int {
	slots, pieces := ends(size, l)
	return size - len(slots) - len(pieces)
}

// bytesOf is the bytes of a page with these pieces.
func bytesOf(size int, l []string) string {
	slots, pieces := ends(size, l)
	return slots + zeros(size-len(slots)-len(pieces)) + pieces
}

// fresh is a page without slots.
func fresh(t *testing.T, size int) *Page {
	t.Helper()
	p, e := New(size)
	if p == nil || e != api.OK {
		t.Fatalf("%d bytes: error %d", size, e)
	}
	return p
}

// add adds what must have room, behind the slots that there are.
func add(t *testing.T, p *Page, l ...string) {
	t.Helper()
	for _, s := range l {
		want := p.Slots()
		if slot, e := p.Add([]byte(s)); slot != want || e != api.OK {
			t.Fatalf("%d bytes: slot %d, error %d; asked for slot %d", len(s), slot, e, want)
		}
	}
}

// drop drops what must be there.
func drop(t *testing.T, p *Page, slots ...int) {
	t.Helper()
	for _, slot := range slots {
		if e := p.Drop(slot); e != api.OK {
			t.Fatalf("slot %d: error %d", slot, e)
		}
	}
}

// with is a page that has these pieces; empty slots stand ahead of others. All
// slots have a byte first, so that none goes, and no more than there is room.
func with(t *testing.T, size int, l ...string) *Page {
	t.Helper()
	p := fresh(t, size)
	for range l {
		add(t, p, "x")
	}
	for slot, s := range l {
		if s == "" {
			drop(t, p, slot)
		} else if e := p.Set(slot, []byte(s)); e != api.OK {
			t.Fatalf("slot %d: error %d", slot, e)
		}
	}
	return p
}

// tells asks for all that a page of these pieces tells.
func tells(t *testing.T, p *Page, size int, l ...string) {
	t.Helper()
	want := bytesOf(size, l)
	if b := p.Bytes(); string(b) != want {
		t.Fatalf("%d bytes %x; asked for %d bytes %x", len(b), b, len(want), want)
	}
	if p.Slots() != len(l) || p.Room() != roomOf(size, l) {
		t.Fatalf("%d slots, room %d; asked for %d, %d", p.Slots(), p.Room(), len(l), roomOf(size, l))
	}
	for i, s := range l {
		want := api.OK
		if s == "" {
			want = api.ErrKey
		}
		if b, e := p.Get(i); string(b) != s || e != want || (b == nil) != (s == "") {
			t.Fatalf("slot %d: %q, error %d; asked for %q, error %d", i, b, e, s, want)
		}
	}
	for _, i := range []int{-1, len(l), len(l) + 1, math.MinInt, math.MaxInt} {
		if b, e := p.Get(i); b != nil || e != api.ErrArg {
			t.Fatalf("slot %d: %q, error %d", i, b, e)
		}
	}
}

// holds asks for that, and for the same of the page that is read of its bytes.
func holds(t *testing.T, p *Page, size int, l ...string) {
	t.Helper()
	tells(t, p, size, l...)
	q, e := Read(p.Bytes())
	if q == nil || e != api.OK {
		t.Fatalf("%x is no page: error %d", p.Bytes(), e)
	}
	tells(t, q, size, l...)
	tells(t, p, size, l...)
}

// refuse asks whether these bytes are no page's.
func refuse(t *testing.T, what, s string) {
	t.Helper()
	if p, e := Read([]byte(s)); p != nil || e != api.ErrText {
		t.Errorf("%s: %d bytes %.80x: error %d, a page %t", what, len(s), s, e, p != nil)
	}
}

// P10.1, P10.3: of all sizes; and of what can't be.
func TestNew(t *testing.T) {
	for size := api.MinSector; size <= api.MaxSector; size++ {
		p := fresh(t, size)
		holds(t, p, size)
		if p.Room() != size-1 {
			t.Fatalf("%d bytes: room %d", size, p.Room())
		}
	}
	for _, size := range []int{0, 1, 2, 63, 1025, 2048, 64 + 1<<32, -1, -64, math.MinInt, math.MaxInt} {
		if p, e := New(size); p != nil || e != api.ErrArg {
			t.Errorf("%d bytes: error %d", size, e)
		}
	}
}

// R1: nobody is there, and a page that neither New nor Read made.
func TestNoPage(t *testing.T) {
	for _, p := range []*Page{nil, {}} {
		for _, b := range [][]byte{nil, {}, []byte("a"), make([]byte, 2000)} {
			if slot, e := p.Add(b); slot != 0 || e != api.ErrNil {
				t.Error(slot, e)
			}
			for _, slot := range []int{0, 1, -1, 250, math.MinInt, math.MaxInt} {
				if e := p.Set(slot, b); e != api.ErrNil {
					t.Error(e)
				}
			}
		}
		for _, slot := range []int{0, 1, -1, 250, math.MinInt, math.MaxInt} {
			if b, e := p.Get(slot); b != nil || e != api.ErrNil {
				t.Error(b, e)
			}
			if e := p.Drop(slot); e != api.ErrNil {
				t.Error(e)
			}
		}
		if p.Slots() != 0 || p.Room() != 0 || p.Bytes() != nil {
			t.Error(p.Slots(), p.Room(), p.Bytes())
		}
	}
}

// P10.1, P10.3: each new slot is behind all, and its piece ahead of all.
func TestAdd(t *testing.T) {
	p := fresh(t, 64)
	want := []string{}
	for _, s := range []string{"one", "three", "x", "\x00", "\x00\x00\xff", "x"} {
		add(t, p, s)
		want = append(want, s)
		holds(t, p, 64, want...)
	}
	if s := string(p.Bytes()); s[:9] != "\x06\x3d\x00\x03\x00\x38\x00\x05\x00" || s[50:] != "x\x00\x00\xff\x00xthreeone" {
		t.Errorf("%x", s)
	}
}

// P10.1: a slot behind all is another one than an empty slot among them.
func TestAddBehindEmptySlots(t *testing.T) {
	p := fresh(t, 64)
	add(t, p, "a", "b", "c", "d")
	drop(t, p, 0, 2)
	add(t, p, "e")
	holds(t, p, 64, "", "b", "", "d", "e")
	drop(t, p, 4, 3)
	holds(t, p, 64, "", "b")
	add(t, p, "f")
	holds(t, p, 64, "", "b", "f")
}

// P10.1: a piece must have bytes; nothing is changed.
func TestAddOfNothing(t *testing.T) {
	p := fresh(t, 64)
	full := with(t, 64, strings.Repeat("f", 59))
	for _, b := range [][]byte{nil, {}} {
		if slot, e := p.Add(b); slot != 0 || e != api.ErrArg {
			t.Error(slot, e)
		}
		if slot, e := full.Add(b); slot != 0 || e != api.ErrArg {
			t.Error("full:", slot, e)
		}
	}
	holds(t, p, 64)
	holds(t, full, 64, strings.Repeat("f", 59))
}

// P10.1: there is room for a piece and 4 bytes, or there is none; and the
// chapter's example.
func TestAddFull(t *testing.T) {
	for _, size := range []int{64, 65, 255, 256, 257, 260, 261, 512, 1023, 1024} {
		for _, l := range [][]string{nil, {"a"}, {"a", "bcd", "e"}, {"", "b"}, {strings.Repeat("l", size-12)}} {
			room := roomOf(size, l)
			for _, n := range []int{room - 3, room - 2, room, room + 1, size, 2000, 1 << 20} {
				if n < 1 {
					continue
				}
				p := with(t, size, l...)
				if slot, e := p.Add(make([]byte, n)); slot != 0 || e != api.ErrFull {
					t.Fatalf("%d bytes where %d are left: slot %d, error %d", n, room, slot, e)
				}
				holds(t, p, size, l...)
			}
			for _, n := range []int{room - 4, room - 5, 1} {
				if n < 1 || n > room-4 {
					continue
				}
				p := with(t, size, l...)
				s := strings.Repeat("s", n)
				add(t, p, s)
				holds(t, p, size, append(slices.Clone(l), s)...)
				if p.Room() != room-n-4 {
					t.Fatal(p.Room())
				}
			}
		}
	}
	p := with(t, 64, strings.Repeat("s", 59))
	if p.Room() != 0 {
		t.Error(p.Room())
	}
	if slot, e := p.Add([]byte("s")); slot != 0 || e != api.ErrFull {
		t.Error(slot, e)
	}
}

// spread is a page of empty slots, but the last one: it has a byte.
func spread(t *testing.T, slots int) *Page {
	t.Helper()
	p := fresh(t, api.MaxSector)
	add(t, p, "x")
	for i := range slots - 1 {
		add(t, p, "x")
		drop(t, p, i)
	}
	return p
}

// P10.1, P10.3: there are MaxSlots slots at most, even if there is room.
func TestMaxSlots(t *testing.T) {
	p := spread(t, api.MaxSlots-1)
	add(t, p, "last")
	l := make([]string, api.MaxSlots)
	l[248], l[249] = "x", "last"
	holds(t, p, 1024, l...)
	if slot, e := p.Add([]byte("y")); slot != 0 || e != api.ErrFull {
		t.Error(slot, e)
	}
	if slot, e := p.Add(nil); slot != 0 || e != api.ErrArg {
		t.Error(slot, e)
	}
	holds(t, p, 1024, l...)
	if e := p.Set(0, []byte("first")); e != api.OK {
		t.Error(e)
	}
	l[0] = "first"
	holds(t, p, 1024, l...)
	drop(t, p, 249)
	add(t, p, "other")
	l[249] = "other"
	holds(t, p, 1024, l...)

	p = fresh(t, api.MaxSector)
	for range 204 {
		add(t, p, "x")
	}
	holds(t, p, 1024, slices.Repeat([]string{"x"}, 204)...)
	if slot, e := p.Add([]byte("y")); slot != 0 || e != api.ErrFull {
		t.Error(slot, e)
	}
}

// P10.2: a slot has another piece, greater or lesser, or one where it had none.
func TestSet(t *testing.T) {
	for slot := range 4 {
		for _, s := range []string{"z", "zz", "zzz", "zzzzz", strings.Repeat("z", 30)} {
			p := with(t, 64, "a", "", "bcd", "ef")
			if e := p.Set(slot, []byte(s)); e != api.OK {
				t.Fatal(slot, e)
			}
			want := []string{"a", "", "bcd", "ef"}
			want[slot] = s
			holds(t, p, 64, want...)
			if e := p.Set(slot, []byte("y")); e != api.OK {
				t.Fatal(slot, e)
			}
			want[slot] = "y"
			holds(t, p, 64, want...)
		}
	}
}

// P10.2: no such slot, and no bytes, also where there is no room; nothing is
// changed.
func TestSetOfWhatCannotBe(t *testing.T) {
	for _, l := range [][]string{nil, {"a"}, {"", "b", "cd"}, {strings.Repeat("f", 59)}} {
		p := with(t, 64, l...)
		for _, b := range [][]byte{nil, {}, []byte("a"), make([]byte, 2000)} {
			for _, slot := range []int{-1, len(l), len(l) + 1, 250, math.MinInt, math.MaxInt} {
				if e := p.Set(slot, b); e != api.ErrArg {
					t.Errorf("%d slots, slot %d: error %d", len(l), slot, e)
				}
			}
		}
		for slot := range l {
			for _, b := range [][]byte{nil, {}} {
				if e := p.Set(slot, b); e != api.ErrArg {
					t.Errorf("slot %d: error %d", slot, e)
				}
			}
		}
		holds(t, p, 64, l...)
	}
}

// P10.2: what the slot's piece has now is room for the one instead, and a slot
// that is there needs no 4 bytes more.
func TestSetFull(t *testing.T) {
	for _, size := range []int{64, 300, 1024} {
		for _, l := range [][]string{{"a"}, {"abc", "d"}, {"", "b", "", "cdef"}, {strings.Repeat("f", size-5)}, {"a", strings.Repeat("f", size-10)}, {"", strings.Repeat("f", size-9)}} {
			for slot, s := range l {
				most := roomOf(size, l) + len(s)
				for _, n := range []int{most + 1, most + 2, size, 2000, 1 << 20} {
					p := with(t, size, l...)
					if e := p.Set(slot, make([]byte, n)); e != api.ErrFull {
						t.Fatalf("%d bytes where %d may be: error %d", n, most, e)
					}
					holds(t, p, size, l...)
				}
				for _, n := range []int{most, most - 1, 1} {
					if n < 1 || n > most {
						continue
					}
					p := with(t, size, l...)
					want := slices.Clone(l)
					want[slot] = strings.Repeat("z", n)
					if e := p.Set(slot, []byte(want[slot])); e != api.OK {
						t.Fatalf("%d bytes where %d may be: error %d", n, most, e)
					}
					holds(t, p, size, want...)
					if p.Room() != most-n {
						t.Fatal(p.Room())
					}
				}
			}
		}
	}
}

// P10.2: a slot among others is empty, and stays; those at the end go, with
// the empty ones ahead of them.
func TestDrop(t *testing.T) {
	p := fresh(t, 64)
	add(t, p, "a", "bc", "def", "g", "hi")
	drop(t, p, 1)
	holds(t, p, 64, "a", "", "def", "g", "hi")
	drop(t, p, 3)
	holds(t, p, 64, "a", "", "def", "", "hi")
	for _, slot := range []int{1, 3} {
		if e := p.Drop(slot); e != api.ErrKey {
			t.Error(slot, e)
		}
	}
	for _, slot := range []int{-1, 5, 6, 250, math.MinInt, math.MaxInt} {
		if e := p.Drop(slot); e != api.ErrArg {
			t.Error(slot, e)
		}
	}
	holds(t, p, 64, "a", "", "def", "", "hi")
	drop(t, p, 4)
	holds(t, p, 64, "a", "", "def")
	for _, slot := range []int{3, 4} {
		if e := p.Drop(slot); e != api.ErrArg {
			t.Error(slot, e)
		}
		if e := p.Set(slot, []byte("z")); e != api.ErrArg {
			t.Error(slot, e)
		}
	}
	drop(t, p, 0)
	holds(t, p, 64, "", "", "def")
	drop(t, p, 2)
	holds(t, p, 64)
	if e := p.Drop(0); e != api.ErrArg {
		t.Error(e)
	}
	add(t, p, strings.Repeat("z", 59))
	holds(t, p, 64, strings.Repeat("z", 59))
	drop(t, p, 0)
	holds(t, p, 64)

	p = spread(t, api.MaxSlots)
	drop(t, p, 249)
	holds(t, p, 1024)
}

// P10.3: all bytes of places and lengths count, where they are above 255.
func TestGreatPieces(t *testing.T) {
	for _, l := range [][]string{
		{strings.Repeat("a", 255)}, {strings.Repeat("a", 256)}, {strings.Repeat("a", 257)}, {strings.Repeat("a", 1019)},
		{strings.Repeat("a", 300), strings.Repeat("b", 511), "c", strings.Repeat("d", 190)},
		{"a", "", strings.Repeat("b", 1010)},
	} {
		holds(t, with(t, 1024, l...), 1024, l...)
	}
	p := with(t, 1024, strings.Repeat("a", 259))
	if s := string(p.Bytes()[:5]); s != "\x01\xfd\x02\x03\x01" {
		t.Errorf("%x", s)
	}
}

// P10.3: of as many bytes as no page has.
func TestReadOfLengths(t *testing.T) {
	refuse(t, "no bytes", "")
	if p, e := Read(nil); p != nil || e != api.ErrText {
		t.Error(e)
	}
	for _, size := range []int{1, 5, 62, 63, 1025, 1026, 1088, 2048, 1 << 20} {
		refuse(t, "0 alone", zeros(size))
		refuse(t, "255 alone", strings.Repeat("\xff", size))
	}
	whole := bytesOf(64, []string{"one", "three"})
	for i := range whole {
		refuse(t, "cut", whole[:i])
	}
	for _, more := range []string{"\x00", "x", zeros(64)} {
		refuse(t, "more", whole+more)
		refuse(t, "more", more+whole)
	}
}

// page64 is 64 bytes: slots ahead, pieces behind, 0 between.
func page64(slots, pieces string) string {
	return slots + zeros(64-len(slots)-len(pieces)) + pieces
}

// P10.3: bytes that are no page's.
func TestReadOfNoPage(t *testing.T) {
	good := page64("\x02\x3d\x00\x03\x00\x3b\x00\x02\x00", "noone")
	p, e := Read([]byte(good))
	if e != api.OK {
		t.Fatal(e)
	}
	holds(t, p, 64, "one", "no")
	for what, s := range map[string]string{
		"a byte in the room":                  good[:20] + "x" + good[21:],
		"a byte behind the slots":             page64("\x02\x3d\x00\x03\x00\x3b\x00\x02\x00\x01", "noone"),
		"a byte ahead of the pieces":          page64("\x02\x3d\x00\x03\x00\x3b\x00\x02\x00", "\x01noone"),
		"a slot less":                         page64("\x01\x3d\x00\x03\x00\x3b\x00\x02\x00", "noone"),
		"bytes without a slot":                page64("\x00", "noone"),
		"a slot more":                         page64("\x03\x3d\x00\x03\x00\x3b\x00\x02\x00", "noone"),
		"pieces in the other order":           page64("\x02\x3b\x00\x02\x00\x3d\x00\x03\x00", "noone"),
		"an empty slot at the end":            page64("\x01", ""),
		"empty slots at the end":              page64("\x0f", ""),
		"an empty slot behind one":            page64("\x02\x3d\x00\x03\x00", "one"),
		"a place of an empty slot":            page64("\x02\x40\x00\x00\x00\x3d\x00\x03\x00", "one"),
		"a place of an empty slot, elsewhere": page64("\x02\x05\x00\x00\x00\x3d\x00\x03\x00", "one"),
		"a place of the last, empty slot":     page64("\x01\x40\x00\x00\x00", ""),
		"a length without a place":            page64("\x01\x00\x00\x03\x00", "one"),
		"a length too great by 1":             page64("\x01\x3d\x00\x04\x00", "one"),
		"a length too small by 1":             page64("\x01\x3d\x00\x02\x00", "one"),
		"a place too great by 1":              page64("\x01\x3e\x00\x03\x00", "one"),
		"a place too small by 1":              page64("\x01\x3c\x00\x03\x00", "one"),
		"a gap behind a piece":                page64("\x01\x3c\x00\x03\x00", "one\x00"),
		"a gap between pieces":                page64("\x02\x3d\x00\x03\x00\x3a\x00\x02\x00", "no\x00one"),
		"pieces one over the other":           page64("\x02\x3d\x00\x03\x00\x3d\x00\x03\x00", "one"),
		"pieces that share a byte":            page64("\x02\x3d\x00\x03\x00\x3b\x00\x03\x00", "noone"),
		"a high byte of a place":              page64("\x01\x3d\x01\x03\x00", "one"),
		"a high byte of a length":             page64("\x01\x3d\x00\x03\x01", "one"),
		"the highest bytes":                   page64("\x01\xff\xff\xff\xff", ""),
		"the highest bytes, twice":            page64("\x02\xff\xff\xff\xff\xff\xff\xff\xff", ""),
		"the highest bit of a length":         page64("\x01\x3d\x00\x03\x80", "one"),
		"the highest byte first":              page64("\x01\x00\x3d\x00\x03", "one"),
		"slots beyond the end":                page64("\x10", ""),
		"as many slots as can't be":           page64("\xfb", ""),
		"the most slots":                      page64("\xfa", ""),
		"255 slots":                           page64("\xff", ""),
	} {
		if len(s) != 64 {
			t.Fatal(what, len(s))
		}
		refuse(t, what, s)
	}
}

// P10.3: a piece may begin just behind the slots, not ahead of it: not even
// where its bytes would be those of the slot.
func TestReadOfPiecesOverSlots(t *testing.T) {
	full := "\x01\x05\x00\x3b\x00" + strings.Repeat("z", 59)
	p, e := Read([]byte(full))
	if e != api.OK {
		t.Fatal(e)
	}
	holds(t, p, 64, strings.Repeat("z", 59))
	for at := range 5 {
		refuse(t, "over the slot", "\x01"+two(at)+two(64-at)+strings.Repeat("z", 59))
	}
	refuse(t, "over the second slot", "\x02"+two(62)+two(2)+two(8)+two(54)+strings.Repeat("z", 55))
	refuse(t, "over all of the second slot", "\x02"+two(62)+two(2)+two(4)+two(58)+strings.Repeat("z", 55))
}

// P10.3: no page has more slots than MaxSlots, even if there is room.
func TestReadOfSlots(t *testing.T) {
	for slots := 1; slots <= 255; slots++ {
		l := make([]string, slots)
		l[slots-1] = "x"
		s := bytesOf(1024, l)
		if slots > api.MaxSlots {
			refuse(t, "too many slots", s)
			continue
		}
		p, e := Read([]byte(s))
		if e != api.OK {
			t.Fatal(slots, e)
		}
		tells(t, p, 1024, l...)
	}
	refuse(t, "no slot but empty ones", "\xfb"+zeros(1023))
}

// lists are pieces of pages of 64 bytes.
func lists() [][]string {
	return [][]string{
		{}, {"a"}, {"\x00"}, {"one", "three", "x"}, {"", "b"}, {"", "", "c", "", "de"},
		{strings.Repeat("f", 59)}, {strings.Repeat("f", 58)}, {"a", strings.Repeat("\x00", 50)}, slices.Repeat([]string{"x"}, 12),
	}
}

// P10.3: whichever bit is turned, it is no page's, or it is that of a piece.
func TestTurnedBits(t *testing.T) {
	for _, l := range lists() {
		good := bytesOf(64, l)
		_, pieces := ends(64, l)
		for at := range 64 {
			for bit := range 8 {
				b := []byte(good)
				b[at] ^= 1 << bit
				if at < 64-len(pieces) {
					refuse(t, "a turned bit", string(b))
					continue
				}
				p, e := Read(b)
				if e != api.OK || string(p.Bytes()) != string(b) || p.Slots() != len(l) {
					t.Fatalf("%x: error %d", b, e)
				}
			}
		}
	}
}

// piecesOf are the pieces of a page, as the slots' places and lengths have
// them; false, if the bytes are no page's.
func piecesOf(s string) ([]string, bool) {
	n := int(s[0])
	if n > 250 || 1+4*n > len(s) {
		return nil, false
	}
	l := make([]string, n)
	for i := range l {
		at, length := int(s[1+4*i])+256*int(s[2+4*i]), int(s[3+4*i])+256*int(s[4+4*i])
		if at+length > len(s) {
			return nil, false
		}
		l[i] = s[at : at+length]
	}
	if slots, pieces := ends(len(s), l); len(slots)+len(pieces) > len(s) || bytesOf(len(s), l) != s {
		return nil, false
	}
	return l, n == 0 || l[n-1] != ""
}

// P10.3: bytes by chance, near to those of pages.
func TestReadOfChance(t *testing.T) {
	r := rand.New(rand.NewSource(10))
	pages := 0
	for range 50000 {
		l := lists()[r.Intn(len(lists()))]
		b := []byte(bytesOf(64, l))
		for range r.Intn(4) {
			at := r.Intn(64)
			if r.Intn(2) == 0 {
				at = r.Intn(1 + 4*len(l))
			}
			b[at] = []byte{0, 1, 2, 3, 60, 61, 62, 63, 64, byte(r.Intn(256))}[r.Intn(10)]
		}
		want, ok := piecesOf(string(b))
		p, e := Read(b)
		if ok != (e == api.OK) || ok != (p != nil) || (!ok && e != api.ErrText) {
			t.Fatalf("%x: error %d; asked for a page %t", b, e, ok)
		}
		if ok {
			pages++
			tells(t, p, 64, want...)
		}
	}
	if pages < 5000 || pages > 45000 {
		t.Errorf("%d pages of 50000", pages)
	}
}

// P10.4, R4: no bytes are shared with what was handed in, or told, nor with
// another piece.
func TestApart(t *testing.T) {
	turn := func(b []byte) {
		for i := range b {
			b[i] ^= 0xff
		}
		_ = append(b, strings.Repeat("!", 100)...)
	}
	p := fresh(t, 64)
	row := []byte("onetwo!!")
	one, two := row[:3], row[3:6]
	p.Add(one)
	p.Add(two)
	p.Add([]byte("x"))
	if e := p.Set(2, row[:6]); e != api.OK {
		t.Fatal(e)
	}
	turn(row[:6:6])
	holds(t, p, 64, "one", "two", "onetwo")
	for slot := range 3 {
		b, _ := p.Get(slot)
		turn(b)
	}
	turn(p.Bytes())
	holds(t, p, 64, "one", "two", "onetwo")

	b := p.Bytes()
	q, e := Read(b)
	if e != api.OK || string(b) != string(p.Bytes()) {
		t.Fatal(e)
	}
	turn(b)
	holds(t, q, 64, "one", "two", "onetwo")
	drop(t, q, 0)
	add(t, q, "q")
	if e := q.Set(1, []byte("two and more")); e != api.OK {
		t.Fatal(e)
	}
	holds(t, q, 64, "", "two and more", "onetwo", "q")
	holds(t, p, 64, "one", "two", "onetwo")
}

// P10.1 to P10.4: calls by chance, beside a list of pieces.
func TestChance(t *testing.T) {
	r := rand.New(rand.NewSource(4))
	for _, size := range []int{64, 65, 100, 256, 300, 1023, 1024} {
		p := fresh(t, size)
		var l []string
		for range 1000 {
			n := r.Intn(size/6 + 1)
			if r.Intn(3) > 0 {
				n = r.Intn(4)
			}
			s := strings.Repeat(string([]byte{byte(r.Intn(256))}), n)
			slot := r.Intn(len(l)+3) - 1
			exists := slot >= 0 && slot < len(l)
			room, want := roomOf(size, l), api.OK
			switch r.Intn(3) {
			case 0:
				if n == 0 {
					want = api.ErrArg
				} else if len(l) == 250 || room < n+4 {
					want = api.ErrFull
				} else {
					l = append(l, s)
				}
				if k, e := p.Add([]byte(s)); e != want || (e == api.OK && k != len(l)-1) {
					t.Fatalf("Add of %d bytes: slot %d, error %d; asked for error %d", n, k, e, want)
				}
			case 1:
				if !exists || n == 0 {
					want = api.ErrArg
				} else if room+len(l[slot]) < n {
					want = api.ErrFull
				} else {
					l[slot] = s
				}
				if e := p.Set(slot, []byte(s)); e != want {
					t.Fatalf("Set of %d bytes: error %d; asked for %d", n, e, want)
				}
			case 2:
				if r.Intn(2) == 0 { // or there are never many
					break
				}
				if !exists {
					want = api.ErrArg
				} else if l[slot] == "" {
					want = api.ErrKey
				} else {
					l[slot] = ""
				}
				if e := p.Drop(slot); e != want {
					t.Fatalf("Drop: error %d; asked for %d", e, want)
				}
				for len(l) > 0 && l[len(l)-1] == "" {
					l = l[:len(l)-1]
				}
			}
			holds(t, p, size, l...)
		}
	}
}
