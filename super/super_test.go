package super

import (
	"hash/crc32"
	"math"
	"math/rand"
	"strings"
	"testing"

	"needlebeam/api"
	"needlebeam/disk"
)

// number is 4 bytes, the lowest first.
func number(n uint32) string {
	s := ""
	for range 4 {
		s += string([]byte{byte(n % 256)})
		n /= 256
	}
	return s
}

// sealed is a sealed record as the words say it.
func sealed(epoch uint32, s string) string {
	return number(uint32(len(s))) + number(crc32.ChecksumIEEE([]byte(number(epoch)+s))) + number(epoch) + s
}

// groups is a number from 0 on, in groups of 7 bits.
func groups(n int) string {
	if n < 128 {
		return string([]byte{byte(n)})
	}
	return string([]byte{byte(n%128 + 128)}) + groups(n/128)
}

// block is a superblock's record as the words say it.
func block(s api.Super) string {
	return sealed(s.Epoch, string([]byte{byte(s.Area)})+groups(s.Used))
}

// may are superblocks that may be, at all ends.
func may() []api.Super {
	var l []api.Super
	for _, epoch := range []uint32{0, 1, 2, 3, 127, 128, 255, 256, 65535, 65536, 0x01020304, 0x04030201, 1<<31 - 2, 1<<31 - 1, 1 << 31} {
		for area := range 2 {
			for _, used := range []int{0, 1, 2, 127, 128, 129, 255, 256, 512, 599, 600} {
				l = append(l, api.Super{Epoch: epoch, Area: area, Used: used})
			}
		}
	}
	return l
}

// mayNot are such as may not.
func mayNot() []api.Super {
	var l []api.Super
	for _, epoch := range []uint32{1<<31 + 1, 1<<31 + 2, 3 << 30, math.MaxUint32 - 1, math.MaxUint32} {
		l = append(l, api.Super{Epoch: epoch}, api.Super{Epoch: epoch, Area: 1, Used: 600})
	}
	for _, area := range []int{math.MinInt, math.MinInt32, -256, -255, -2, -1, 2, 3, 255, 256, 257, 1 << 32, 1<<32 + 1, math.MaxInt} {
		l = append(l, api.Super{Area: area}, api.Super{Epoch: 1 << 31, Area: area, Used: 600})
	}
	for _, used := range []int{math.MinInt, math.MinInt32, -600, -1, 601, 602, 1024, 65536, 1 << 32, 1<<32 + 1, math.MaxInt} {
		l = append(l, api.Super{Used: used}, api.Super{Epoch: 1 << 31, Area: 1, Used: used})
	}
	return append(l, api.Super{Epoch: 1<<31 + 1, Area: 2, Used: 601}, api.Super{Epoch: math.MaxUint32, Area: -1, Used: -1})
}

// fresh is a new disk.
func fresh(t *testing.T, sectors int) *disk.Disk {
	t.Helper()
	d, e := disk.New(sectors, 64)
	if e != api.OK {
		t.Fatal(e)
	}
	return d
}

// write writes what must go; it waits.
func write(t *testing.T, d *disk.Disk, i int, s string) {
	t.Helper()
	if e := d.Write(i, []byte(s)); e != api.OK {
		t.Fatalf("sector %d: error %d", i, e)
	}
}

// put puts what must go.
func put(t *testing.T, d *disk.Disk, s api.Super) {
	t.Helper()
	if e := Put(d, s); e != api.OK {
		t.Fatalf("%v: error %d", s, e)
	}
}

// next is the one behind, which must be.
func next(t *testing.T, s api.Super, used int) api.Super {
	t.Helper()
	n, e := Next(s, used)
	if want := (api.Super{Epoch: s.Epoch + 1, Area: 1 - s.Area, Used: used}); n != want || e != api.OK {
		t.Fatalf("behind %v, with %d: %v, error %d", s, used, n, e)
	}
	return n
}

// see asks for the bytes of a sector, 0 behind them.
func see(t *testing.T, d *disk.Disk, i int, want string) {
	t.Helper()
	want += strings.Repeat("\x00", d.Size()-len(want))
	if b, e := d.Read(i); string(b) != want || e != api.OK {
		t.Fatalf("sector %d: %x, error %d; asked for %x", i, b, e, want)
	}
}

// told asks which superblock is told, and whether asking leaves the disk as it is.
func told(t *testing.T, d *disk.Disk, want api.Super) {
	t.Helper()
	deeds, waits := d.Deeds(), d.Waits()
	if s, e := Get(d); s != want || e != api.OK {
		t.Fatalf("%v, error %d; asked for %v", s, e, want)
	}
	if d.Deeds() != deeds || d.Waits() != waits {
		t.Fatal("asking did deeds")
	}
}

// refused asks whether none is told, for that reason.
func refused(t *testing.T, d *disk.Disk, want api.Errno) {
	t.Helper()
	if s, e := Get(d); s != (api.Super{}) || e != want {
		t.Errorf("%v, error %d; asked for error %d", s, e, want)
	}
}

// P8.1
func TestFits(t *testing.T) {
	for _, s := range may() {
		if !Fits(s) {
			t.Errorf("%v may be", s)
		}
	}
	for _, s := range mayNot() {
		if Fits(s) {
			t.Errorf("%v may not be", s)
		}
	}
}

// P8.1: byte by byte, in its own sector alone, with 0 behind it, and it lasts.
func TestPut(t *testing.T) {
	full := strings.Repeat("\xff", 64)
	for _, s := range may() {
		d := fresh(t, 3)
		for i := range 3 {
			write(t, d, i, full)
		}
		put(t, d, s)
		if d.Deeds() != 5 || d.Waits() != 0 {
			t.Errorf("%v: %d deeds, %d wait", s, d.Deeds(), d.Waits())
		}
		d.Crash(0)
		i := int(s.Epoch % 2)
		see(t, d, i, block(s))
		see(t, d, 1-i, full)
		see(t, d, 2, full)
		told(t, d, s)
	}
}

// P8.1: the bytes written out.
func TestPutBytes(t *testing.T) {
	d := fresh(t, 2)
	put(t, d, api.Super{Epoch: 4, Area: 1, Used: 300})
	see(t, d, 0, "\x03\x00\x00\x00\x93\x03\x5d\x84\x04\x00\x00\x00\x01\xac\x02")
	see(t, d, 1, "")
	put(t, d, api.Super{Epoch: 5, Used: 7})
	see(t, d, 1, "\x02\x00\x00\x00\xb3\xa5\x6b\x7f\x05\x00\x00\x00\x00\x07")
}

// P8.1: a disk of sectors of any size.
func TestSizes(t *testing.T) {
	for _, size := range []int{64, 65, 512, 1023, 1024} {
		for _, sectors := range []int{2, 3, 600} {
			d, _ := disk.New(sectors, size)
			if e := Format(d); e != api.OK {
				t.Error(e)
			}
			s := api.Super{}
			for range 4 {
				s = next(t, s, 600)
				put(t, d, s)
				told(t, d, s)
			}
			see(t, d, sectors-1, map[bool]string{true: block(api.Super{Epoch: 3, Area: 1, Used: 600})}[sectors == 2])
		}
	}
}

// P8.1, P8.2: no disk, whatever else is wrong.
func TestNoDisk(t *testing.T) {
	for _, s := range append(mayNot(), may()...) {
		if e := Put(nil, s); e != api.ErrNil {
			t.Errorf("%v: error %d", s, e)
		}
	}
	refused(t, nil, api.ErrNil)
	if e := Format(nil); e != api.ErrNil {
		t.Error(e)
	}
}

// P8.1: what may not be is never written, on a dark disk, too.
func TestPutOfWhatMayNotBe(t *testing.T) {
	d := fresh(t, 3)
	at := api.Super{Epoch: 9, Area: 1, Used: 5}
	put(t, d, at)
	for _, dark := range []bool{false, true} {
		if dark {
			d.Fuse(0)
			d.Flush()
		}
		for _, s := range mayNot() {
			if e := Put(d, s); e != api.ErrArg || d.Deeds() != 2 {
				t.Errorf("%v: error %d, %d deeds", s, e, d.Deeds())
			}
		}
	}
	d.Crash(0)
	told(t, d, at)
}

// P8.1, P8.2: fewer than 2 sectors, on a dark disk, too.
func TestSmallDisk(t *testing.T) {
	one := fresh(t, 1)
	for _, d := range []*disk.Disk{one, {}} {
		for range 2 {
			for _, s := range append(mayNot(), may()...) {
				if e := Put(d, s); e != api.ErrArg {
					t.Errorf("%v: error %d", s, e)
				}
			}
			if e := Format(d); e != api.ErrArg {
				t.Error(e)
			}
			if d.Deeds() != 0 || d.Waits() != 0 {
				t.Errorf("%d deeds, %d wait", d.Deeds(), d.Waits())
			}
			d.Fuse(0)
			d.Flush()
		}
		refused(t, d, api.ErrDown)
	}
	one.Crash(0)
	write(t, one, 0, block(api.Super{}))
	refused(t, one, api.ErrArg) // the disk's, as there is no sector 1
}

// P8.1, P8.2: the disk's errors; a deed that wasn't done is tried no more.
func TestDark(t *testing.T) {
	for fuse := range 5 {
		d := fresh(t, 2)
		d.Fuse(fuse)
		e := Put(d, api.Super{Epoch: 1})
		if (e == api.OK) != (fuse >= 2) || e != api.OK && e != api.ErrDown || d.Deeds() != min(fuse, 2) || d.Dark() != (fuse < 2) {
			t.Errorf("fuse %d: error %d, %d deeds, dark %t", fuse, e, d.Deeds(), d.Dark())
		}
		d = fresh(t, 2)
		d.Fuse(fuse)
		e = Format(d)
		if (e == api.OK) != (fuse >= 4) || e != api.OK && e != api.ErrDown || d.Deeds() != fuse || d.Dark() != (fuse < 4) {
			t.Errorf("format, fuse %d: error %d, %d deeds, dark %t", fuse, e, d.Deeds(), d.Dark())
		}
		if fuse < 4 {
			refused(t, d, api.ErrDown)
			if Put(d, api.Super{}) != api.ErrDown || Format(d) != api.ErrDown || d.Deeds() != fuse {
				t.Errorf("fuse %d: the dark disk", fuse)
			}
		}
	}
}

// P8.1: the greater epoch, in whichever sector, and as it is seen.
func TestGetGreater(t *testing.T) {
	for _, x := range [][2]uint32{{0, 1}, {2, 1}, {4, 5}, {6, 5}, {0, 1<<31 - 1}, {1 << 31, 1}, {1 << 31, 1<<31 - 1}, {256, 255}, {256, 257}, {65536, 1}, {2, 65537}} {
		d := fresh(t, 2)
		even, odd := api.Super{Epoch: x[0], Used: 10}, api.Super{Epoch: x[1], Area: 1, Used: 20}
		want := even
		if odd.Epoch > even.Epoch {
			want = odd
		}
		write(t, d, 1, block(odd))
		told(t, d, odd)
		write(t, d, 0, block(even))
		told(t, d, want)
		d.Flush()
		told(t, d, want)
		write(t, d, 1, "")
		told(t, d, even)
		d.Crash(0)
		told(t, d, want)
	}
}

// P8.1: one that stands in the other's sector counts for none.
func TestGetOwnSector(t *testing.T) {
	for _, s := range may() {
		d := fresh(t, 4)
		own := int(s.Epoch % 2)
		for i := range 4 {
			if i != own {
				write(t, d, i, block(s))
			}
		}
		refused(t, d, api.ErrSum)
		if s.Epoch < 2 {
			continue
		}
		less := api.Super{Epoch: s.Epoch - 2, Area: 1, Used: 3}
		write(t, d, own, block(less))
		told(t, d, less)
		write(t, d, own, block(s))
		told(t, d, s)
	}
}

// P8.1: what stands behind a record isn't looked at.
func TestGetBehind(t *testing.T) {
	for _, s := range may() {
		for _, behind := range []string{"\x00", "\x01", "\xff", strings.Repeat("\xff", 49), block(api.Super{Epoch: s.Epoch + 2, Used: 9})} {
			d := fresh(t, 2)
			write(t, d, int(s.Epoch%2), block(s)+behind)
			told(t, d, s)
		}
	}
}

// wrong are bytes that are no record of a superblock of that epoch.
func wrong(epoch uint32) []string {
	l := []string{"", "\xff", strings.Repeat("\xff", 64), number(53), number(52), number(math.MaxUint32), number(1 << 31), strings.Repeat("\x01", 64)}
	for _, field := range []string{
		"", "\x00", "\x01", "\x00\x80", "\x01\xff", // too few bytes
		"\x00\x07\x00", "\x00\x07\x01", "\x01\xac\x02\x00", "\x01\xac\x02\x01", strings.Repeat("\x00", 52), // more than one has
		"\x00\x80\x00", "\x00\x87\x00", "\x01\xac\x82\x00", // in more bytes than needed
		"\x02\x07", "\x03\x07", "\x7f\x07", "\x80\x07", "\xff\x07", // areas that aren't
		"\x00\xd9\x04", "\x01\xd9\x04", "\x00\xff\x7f", "\x00\x80\x80\x01", // above 600
		"\x00\x80\x80\x80\x80\x10", "\x00\x87\x80\x80\x80\x10", "\x00\xff\xff\xff\xff\x0f", // 2^32 and such
		"\x00\x80\x80\x80\x80\x80\x80\x80\x80\x80\x01", "\x00\xff\xff\xff\xff\xff\xff\xff\xff\xff\x01", // 2^63, 2^64 - 1
		"\x00\x80\x80\x80\x80\x80\x80\x80\x80\x80\x02", "\x00\x81\x80\x80\x80\x80\x80\x80\x80\x80\x80\x01", // above 64 bits
	} {
		l = append(l, sealed(epoch, field))
	}
	good := sealed(epoch, "\x00\x07")
	return append(l, good[:4]+"\x00\x00\x00\x00"+good[8:], "\x00"+good, good[1:], "\x03"+good[1:], "\x01"+good[1:])
}

// P8.1: what is no superblock's record; the other sector's stands, whatever its
// epoch.
func TestGetWrong(t *testing.T) {
	for _, epoch := range []uint32{0, 1, 2, 7, 1<<31 - 1, 1 << 31} {
		for _, s := range wrong(epoch) {
			d := fresh(t, 2)
			i := int(epoch % 2)
			write(t, d, i, s)
			refused(t, d, api.ErrSum)
			write(t, d, 1-i, s)
			refused(t, d, api.ErrSum)
			for _, other := range []uint32{0, 1, 1 << 30, 1<<30 + 1} {
				if other%2 != epoch%2 {
					at := api.Super{Epoch: other, Area: 1, Used: 600}
					write(t, d, 1-i, block(at))
					told(t, d, at)
				}
			}
		}
	}
}

// P8.1: epochs above the greatest may not be, though they are sealed well.
func TestGetEpochs(t *testing.T) {
	for _, s := range mayNot() {
		if s.Epoch <= 1<<31 {
			continue
		}
		d := fresh(t, 2)
		write(t, d, 0, sealed(s.Epoch, "\x00\x07"))
		write(t, d, 1, sealed(s.Epoch, "\x00\x07"))
		refused(t, d, api.ErrSum)
		at := api.Super{Epoch: s.Epoch%2 + 1, Used: 1}
		write(t, d, int(at.Epoch%2), block(at))
		told(t, d, at)
	}
}

// P8.1: any byte of a record that is turned in any way makes it none.
func TestGetTurned(t *testing.T) {
	for _, s := range []api.Super{{}, {Epoch: 1}, {Epoch: 300, Area: 1, Used: 300}, {Epoch: 1 << 31, Used: 600}} {
		good := block(s)
		for i := range good {
			for turn := 1; turn < 256; turn++ {
				b := []byte(good)
				b[i] ^= byte(turn)
				d := fresh(t, 2)
				write(t, d, 0, string(b))
				write(t, d, 1, string(b))
				refused(t, d, api.ErrSum)
			}
		}
	}
}

// P8.1: an empty disk, and one of which only other sectors are written.
func TestGetNone(t *testing.T) {
	for _, sectors := range []int{2, 3, 600} {
		d := fresh(t, sectors)
		refused(t, d, api.ErrSum)
		for i := 2; i < sectors; i++ {
			write(t, d, i, block(api.Super{Epoch: uint32(i)}))
		}
		refused(t, d, api.ErrSum)
	}
}

// P8.2
func TestNext(t *testing.T) {
	none := func(s api.Super, used int) {
		t.Helper()
		if n, e := Next(s, used); n != (api.Super{}) || e != api.ErrArg {
			t.Errorf("behind %v, with %d: %v, error %d", s, used, n, e)
		}
	}
	uses := []int{0, 1, 127, 128, 599, 600}
	for _, s := range may() {
		for _, used := range uses {
			if s.Epoch < 1<<31 {
				next(t, s, used)
			} else {
				none(s, used)
			}
		}
		for _, used := range []int{math.MinInt, -600, -1, 601, 1 << 32, math.MaxInt} {
			none(s, used)
		}
	}
	for _, s := range mayNot() {
		for _, used := range append(uses, -1, 601) {
			none(s, used)
		}
	}
}

// P8.2: whatever stood there, the first one alone stands, and lasts; sectors
// behind stay as they are.
func TestFormat(t *testing.T) {
	for _, ahead := range []string{"", "\xff", strings.Repeat("\xff", 64), block(api.Super{Epoch: 8, Area: 1, Used: 9}), block(api.Super{Epoch: 9, Area: 1, Used: 9})} {
		d := fresh(t, 4)
		for i := range 4 {
			write(t, d, i, ahead)
		}
		d.Flush()
		if e := Format(d); e != api.OK {
			t.Fatal(e)
		}
		if d.Deeds() != 9 || d.Waits() != 0 {
			t.Errorf("%d deeds, %d wait", d.Deeds(), d.Waits())
		}
		d.Crash(0)
		see(t, d, 0, block(api.Super{}))
		see(t, d, 1, "")
		see(t, d, 2, ahead)
		see(t, d, 3, ahead)
		told(t, d, api.Super{})
	}
}

// P8.2: of a format that goes dark, the first one lasts ahead of the sector 1
// being written.
func TestFormatInOrder(t *testing.T) {
	old := api.Super{Epoch: 9, Area: 1, Used: 9}
	for fuse := range 4 {
		for pattern := range uint64(2) {
			d := fresh(t, 2)
			put(t, d, old)
			d.Fuse(fuse)
			if e := Format(d); e != api.ErrDown {
				t.Error(e)
			}
			d.Crash(pattern)
			first := map[bool]string{true: block(api.Super{})}
			see(t, d, 0, first[fuse >= 2 || fuse == 1 && pattern == 1])
			if fuse == 3 && pattern == 1 {
				told(t, d, api.Super{})
			} else {
				told(t, d, old)
			}
		}
	}
}

// The chapter's example.
func TestExample(t *testing.T) {
	d := fresh(t, 3)
	four, five := api.Super{Epoch: 4, Area: 0, Used: 2}, api.Super{Epoch: 5, Area: 1, Used: 3}
	put(t, d, four)
	see(t, d, 0, block(four))
	see(t, d, 1, "")
	told(t, d, four)
	put(t, d, five)
	see(t, d, 0, block(four))
	see(t, d, 1, block(five))
	told(t, d, five)
}

// P8.3: with other writes waiting ahead, so that each bit has its turn.
func TestDarkWhileNextIsPut(t *testing.T) {
	for _, s := range may() {
		if s.Epoch == 1<<31 {
			continue
		}
		for fuse := range 4 {
			for _, waits := range []int{0, 1, 63, 64} {
				for _, pattern := range []uint64{0, 1, 2, 1 << 63, 1<<63 - 1, math.MaxUint64 - 1, math.MaxUint64} {
					d := fresh(t, 3)
					put(t, d, s)
					for range waits {
						write(t, d, 2, "other")
					}
					n := next(t, s, 600-s.Used)
					d.Fuse(fuse)
					e := Put(d, n)
					if (e == api.OK) != (fuse >= 2) {
						t.Fatalf("fuse %d: error %d", fuse, e)
					}
					d.Crash(pattern)
					if e == api.OK || fuse == 1 && pattern>>(waits%64)&1 == 1 {
						told(t, d, n)
					} else {
						told(t, d, s)
					}
				}
			}
		}
	}
}

// P8.3: many crashes, one behind the other; of a state that was lost, another
// next one is put.
func TestManyCrashes(t *testing.T) {
	r := rand.New(rand.NewSource(83))
	for range 100 {
		d := fresh(t, 4)
		if e := Format(d); e != api.OK {
			t.Fatal(e)
		}
		s := api.Super{}
		for range 60 {
			for range r.Intn(5) {
				write(t, d, 2+r.Intn(2), "other")
			}
			n := next(t, s, r.Intn(601))
			d.Fuse(r.Intn(4) - 1)
			e := Put(d, n)
			d.Crash(r.Uint64())
			got, g := Get(d)
			if g != api.OK || got != n && (got != s || e == api.OK) {
				t.Fatalf("behind %v, put %v with error %d: %v, error %d", s, n, e, got, g)
			}
			s = got
		}
	}
}

// R1: at bytes that are drawn, and at records of which some were drawn.
func TestDrawn(t *testing.T) {
	r := rand.New(rand.NewSource(84))
	for range 20000 {
		d := fresh(t, 2)
		for i := range 2 {
			b := []byte(block(api.Super{Epoch: r.Uint32() >> r.Intn(32), Area: r.Intn(3), Used: r.Intn(700)}) + strings.Repeat("\x00", 64))[:64]
			for range r.Intn(3) {
				b[r.Intn(64)] = byte(r.Intn(256))
			}
			write(t, d, i, string(b))
		}
		s, e := Get(d)
		if e == api.ErrSum && s == (api.Super{}) {
			continue
		}
		if e != api.OK || !Fits(s) {
			t.Fatalf("%v, error %d", s, e)
		}
		b, _ := d.Read(int(s.Epoch % 2))
		if !strings.HasPrefix(string(b), block(s)) {
			t.Fatalf("%v of %x", s, b)
		}
	}
}
