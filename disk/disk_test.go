package disk

import (
	"bytes"
	"math"
	"math/rand"
	"strings"
	"testing"

	"needlebeam/api"
)

// told is a disk as the words tell it: what is seen is written anew each time.
type told struct {
	size  int
	lasts []string // each of so many bytes
	at    []int    // of each write that waits, its sector
	what  []string // and its bytes
	fuse  int
	dark  bool
	deeds int
}

func tell(sectors, size int) *told {
	d := &told{size: size, fuse: -1}
	for range sectors {
		d.lasts = append(d.lasts, strings.Repeat("\x00", size))
	}
	return d
}

// over is sectors with the writes over them for which a bit is set.
func (d *told) over(pattern uint64) []string {
	l := append([]string(nil), d.lasts...)
	for k, i := range d.at {
		bit := uint64(1)
		for range k % 64 {
			bit *= 2
		}
		if pattern&bit != 0 {
			l[i] = d.what[k] + strings.Repeat("\x00", d.size-len(d.what[k]))
		}
	}
	return l
}

// burn is whether a deed is done.
func (d *told) burn() bool {
	if d.fuse == 0 {
		d.dark = true
		return false
	}
	if d.fuse > 0 {
		d.fuse--
	}
	d.deeds++
	return true
}

func (d *told) write(i int, s string) api.Errno {
	switch {
	case d.dark:
		return api.ErrDown
	case i < 0, i >= len(d.lasts), len(s) > d.size:
		return api.ErrArg
	case !d.burn():
		return api.ErrDown
	}
	d.at, d.what = append(d.at, i), append(d.what, s)
	return api.OK
}

func (d *told) flush() api.Errno {
	if d.dark || !d.burn() {
		return api.ErrDown
	}
	d.lasts = d.over(math.MaxUint64)
	d.at, d.what = nil, nil
	return api.OK
}

func (d *told) crash(pattern uint64) {
	d.lasts = d.over(pattern)
	d.at, d.what, d.fuse, d.dark = nil, nil, -1, false
}

// same asks whether a disk is as it is told.
func (d *told) same(t *testing.T, got *Disk) {
	t.Helper()
	if got.Sectors() != len(d.lasts) || got.Size() != d.size || got.Deeds() != d.deeds || got.Waits() != len(d.at) || got.Dark() != d.dark {
		t.Fatalf("%d, %d, %d deeds, %d wait, dark %t; asked for %d, %d, %d, %d, %t", got.Sectors(), got.Size(), got.Deeds(), got.Waits(), got.Dark(), len(d.lasts), d.size, d.deeds, len(d.at), d.dark)
	}
	for i, want := range d.over(math.MaxUint64) {
		b, e := got.Read(i)
		if d.dark && (b != nil || e != api.ErrDown) || !d.dark && (string(b) != want || e != api.OK) {
			t.Fatalf("sector %d: %.20q, error %d; asked for %.20q, dark %t", i, b, e, want, d.dark)
		}
	}
}

// fresh is a new disk.
func fresh(t *testing.T, sectors, size int) *Disk {
	t.Helper()
	d, e := New(sectors, size)
	if d == nil || e != api.OK {
		t.Fatalf("%d sectors of %d: error %d", sectors, size, e)
	}
	return d
}

// put writes what must go.
func put(t *testing.T, d *Disk, i int, s string) {
	t.Helper()
	if e := d.Write(i, []byte(s)); e != api.OK {
		t.Fatalf("sector %d, %.20q: error %d", i, s, e)
	}
}

// flush must go.
func flush(t *testing.T, d *Disk) {
	t.Helper()
	if e := d.Flush(); e != api.OK {
		t.Fatalf("flush: error %d", e)
	}
}

// see asks for the bytes of a sector, 0 behind them.
func see(t *testing.T, d *Disk, i int, want string) {
	t.Helper()
	b, e := d.Read(i)
	if e != api.OK || string(b) != want+strings.Repeat("\x00", d.Size()-len(want)) {
		t.Fatalf("sector %d: %.20q, error %d; asked for %.20q", i, b, e, want)
	}
}

// P7.1: what can be, and what can't.
func TestNew(t *testing.T) {
	for _, sectors := range []int{1, 2, 299, 599, 600} {
		for _, size := range []int{64, 65, 512, 1023, 1024} {
			tell(sectors, size).same(t, fresh(t, sectors, size))
		}
	}
	ends := []int{math.MinInt, math.MinInt32, -600, -64, -1, 0, 1025, 65536, math.MaxInt32, math.MaxInt}
	for _, wrong := range ends {
		for _, x := range [][2]int{{wrong, 64}, {1, wrong}, {wrong, wrong}, {601, 64}, {600, 63}, {601, 63}, {600, 1025}, {1, 63}, {1, 1}} {
			if d, e := New(x[0], x[1]); d != nil || e != api.ErrArg {
				t.Errorf("%d sectors of %d: %v, error %d", x[0], x[1], d, e)
			}
		}
	}
}

// P7.1: a sector has what is written, and 0 behind it, whatever it had.
func TestWrite(t *testing.T) {
	for _, size := range []int{64, 100, 1024} {
		d := fresh(t, 3, size)
		for n := range size + 1 {
			put(t, d, 1, strings.Repeat("\xff", size))
			see(t, d, 1, strings.Repeat("\xff", size))
			if n%2 == 1 {
				flush(t, d)
			}
			put(t, d, 1, strings.Repeat("x", n))
			see(t, d, 1, strings.Repeat("x", n))
			see(t, d, 0, "")
			see(t, d, 2, "")
		}
		put(t, d, 1, "abc")
		if e := d.Write(1, nil); e != api.OK {
			t.Error(e)
		}
		see(t, d, 1, "")
	}
}

// P7.1: what is seen is the last write to a sector, whatever lasts.
func TestSeen(t *testing.T) {
	d := fresh(t, 600, 64)
	for i := range 600 {
		put(t, d, i, strings.Repeat("a", 1+i%64))
	}
	flush(t, d)
	put(t, d, 599, "one")
	put(t, d, 0, "two")
	put(t, d, 599, "three")
	put(t, d, 0, "four")
	put(t, d, 599, "five")
	see(t, d, 599, "five")
	see(t, d, 0, "four")
	for i := 1; i < 599; i++ {
		see(t, d, i, strings.Repeat("a", 1+i%64))
	}
	flush(t, d)
	see(t, d, 599, "five")
	see(t, d, 0, "four")
}

// P7.1: no such sector, and too many bytes; they are no deeds, and leave all as
// it is.
func TestWrongArguments(t *testing.T) {
	d, want := fresh(t, 4, 64), tell(4, 64)
	put(t, d, 3, "abc")
	want.write(3, "abc")
	d.Fuse(1)
	want.fuse = 1
	for _, i := range []int{math.MinInt, math.MinInt32, -4, -1, 4, 5, 600, 1 << 32, 1<<32 + 3, math.MaxInt} {
		for _, n := range []int{0, 1, 64, 65} {
			if e := d.Write(i, make([]byte, n)); e != api.ErrArg {
				t.Errorf("sector %d, %d bytes: error %d", i, n, e)
			}
		}
		if b, e := d.Read(i); b != nil || e != api.ErrArg {
			t.Errorf("sector %d: %q, error %d", i, b, e)
		}
		want.same(t, d)
	}
	for _, n := range []int{65, 66, 128, 1024, 70000} {
		if e := d.Write(3, make([]byte, n)); e != api.ErrArg {
			t.Errorf("%d bytes: error %d", n, e)
		}
		want.same(t, d)
	}
	put(t, d, 0, "the deed that the fuse lets be done")
}

// P7.1: the first that holds. A fuse that is over stands behind what can't be,
// and then the disk isn't dark; a dark disk stands ahead of it.
func TestOrderOfErrors(t *testing.T) {
	d := fresh(t, 4, 64)
	d.Fuse(0)
	for _, i := range []int{-1, 4} {
		if e := d.Write(i, nil); e != api.ErrArg || d.Dark() {
			t.Errorf("sector %d: error %d, dark %t", i, e, d.Dark())
		}
	}
	if e := d.Write(0, make([]byte, 65)); e != api.ErrArg || d.Dark() {
		t.Errorf("error %d, dark %t", e, d.Dark())
	}
	if _, e := d.Read(4); e != api.ErrArg || d.Dark() {
		t.Errorf("error %d, dark %t", e, d.Dark())
	}
	see(t, d, 0, "") // a read is no deed
	if e := d.Write(0, make([]byte, 64)); e != api.ErrDown || !d.Dark() {
		t.Errorf("error %d, dark %t", e, d.Dark())
	}
	for _, i := range []int{math.MinInt, -1, 0, 3, 4, math.MaxInt} {
		if e := d.Write(i, make([]byte, 65)); e != api.ErrDown {
			t.Errorf("sector %d: error %d", i, e)
		}
		if b, e := d.Read(i); b != nil || e != api.ErrDown {
			t.Errorf("sector %d: %q, error %d", i, b, e)
		}
	}
	if e := d.Flush(); e != api.ErrDown {
		t.Error(e)
	}
}

// P7.2: a fuse of so many deeds, flushes among them; the one behind them is
// never done.
func TestFuse(t *testing.T) {
	for n := range 40 {
		for _, every := range []int{1, 2, 3, 100} { // each deed of that number is a flush
			d, want := fresh(t, 2, 64), tell(2, 64)
			d.Fuse(n)
			want.fuse = n
			for k := range n + 4 {
				s := string(rune('a' + k%26))
				e, asked := api.OK, api.OK
				if k%every == every-1 {
					e, asked = d.Flush(), want.flush()
				} else {
					e, asked = d.Write(k%2, []byte(s)), want.write(k%2, s)
				}
				if e != asked || (e == api.OK) != (k < n) {
					t.Fatalf("fuse %d, deed %d: error %d, asked for %d", n, k, e, asked)
				}
				want.same(t, d)
			}
			d.Crash(5)
			want.crash(5)
			want.same(t, d)
		}
	}
}

// P7.2: below 0 it is none, a later one stands for one ahead, and deeds that
// were done ahead of it don't count.
func TestFuseAgain(t *testing.T) {
	d := fresh(t, 1, 64)
	for _, n := range []int{-1, -2, math.MinInt32, math.MinInt} {
		d.Fuse(2)
		d.Fuse(n)
		for range 70 {
			put(t, d, 0, "a")
			flush(t, d)
		}
	}
	d.Fuse(0)
	d.Fuse(2)
	put(t, d, 0, "a")
	d.Fuse(1)
	put(t, d, 0, "b")
	if d.Dark() {
		t.Error("it is dark ahead of the deed that isn't done")
	}
	d.Fuse(math.MaxInt)
	for range 70 {
		put(t, d, 0, "c")
	}
	d.Fuse(0)
	if d.Dark() || d.Flush() != api.ErrDown || !d.Dark() {
		t.Error("a fuse of no deeds")
	}
	waits := d.Waits()
	for _, n := range []int{5, -1, 0, math.MaxInt} { // it was dark ahead of it
		d.Fuse(n)
		if !d.Dark() || d.Write(0, nil) != api.ErrDown || d.Flush() != api.ErrDown || d.Waits() != waits {
			t.Errorf("fuse %d: no longer dark", n)
		}
	}
}

// P7.2: behind a crash there is no fuse, and nothing is dark.
func TestCrashEndsFuse(t *testing.T) {
	for _, n := range []int{0, 1, 2, 3} {
		d := fresh(t, 1, 64)
		d.Fuse(n)
		e := d.Write(0, []byte("a"))
		if (e == api.OK) != (n > 0) {
			t.Errorf("fuse %d: error %d", n, e)
		}
		d.Crash(0)
		if d.Dark() || d.Waits() != 0 || d.Deeds() != min(n, 1) {
			t.Errorf("fuse %d: dark %t, %d wait, %d deeds", n, d.Dark(), d.Waits(), d.Deeds())
		}
		for range 10 {
			put(t, d, 0, "b")
			flush(t, d)
		}
	}
}

// P7.2: the example, and each bit alone, of more writes than there are bits.
func TestCrash(t *testing.T) {
	d := fresh(t, 2, 64)
	put(t, d, 0, "a")
	flush(t, d)
	put(t, d, 0, "b")
	d.Crash(0)
	see(t, d, 0, "a")
	for bit := range 64 {
		for _, sectors := range []int{1, 3, 200, 600} {
			d, want := fresh(t, sectors, 64), tell(sectors, 64)
			for k := range 200 {
				s := strings.Repeat(string([]byte{byte(k + 1)}), 1+k%64)
				put(t, d, k%sectors, s)
				want.write(k%sectors, s)
			}
			d.Crash(1 << bit)
			want.crash(1 << bit)
			want.same(t, d)
		}
	}
}

// P7.2: writes are numbered from the last flush on, or the last crash, through
// all sectors.
func TestNumbersOfWrites(t *testing.T) {
	d := fresh(t, 3, 64)
	put(t, d, 0, "a")
	flush(t, d)
	put(t, d, 1, "b") // 0
	put(t, d, 0, "c") // 1
	put(t, d, 1, "d") // 2
	if d.Write(3, nil) != api.ErrArg {
		t.Error("no such sector")
	}
	put(t, d, 2, "e") // 3, as what can't be has no number
	d.Crash(0b1001)
	see(t, d, 0, "a")
	see(t, d, 1, "b")
	see(t, d, 2, "e")
	put(t, d, 0, "f") // 0
	put(t, d, 1, "g") // 1
	put(t, d, 0, "h") // 2
	d.Crash(0b011)
	see(t, d, 0, "f")
	see(t, d, 1, "g")
	see(t, d, 2, "e")
	d.Crash(math.MaxUint64)
	see(t, d, 0, "f")
}

// P7.2: deeds are counted for ever, and what isn't done is none.
func TestDeedsAndWaits(t *testing.T) {
	d := fresh(t, 2, 64)
	ask := func(deeds, waits int) {
		t.Helper()
		if d.Deeds() != deeds || d.Waits() != waits {
			t.Errorf("%d deeds, %d wait; asked for %d, %d", d.Deeds(), d.Waits(), deeds, waits)
		}
	}
	ask(0, 0)
	put(t, d, 0, "a")
	put(t, d, 0, "a")
	ask(2, 2)
	see(t, d, 0, "a")
	ask(2, 2)
	flush(t, d)
	flush(t, d) // of nothing: a deed, too
	ask(4, 0)
	put(t, d, 1, "")
	d.Fuse(0)
	d.Flush()
	ask(5, 1)
	d.Write(0, nil)
	d.Write(9, nil)
	ask(5, 1)
	d.Crash(1)
	ask(5, 0)
	flush(t, d)
	ask(6, 0)
}

// P7.3: what was flushed lasts, but for sectors that were written since.
func TestWhatWasFlushedLasts(t *testing.T) {
	r := rand.New(rand.NewSource(73))
	for range 300 {
		d, since := fresh(t, 20, 64), map[int]bool{}
		want := make([]string, 20)
		for i := range want {
			want[i] = strings.Repeat("x", r.Intn(65))
			put(t, d, i, want[i])
		}
		flush(t, d)
		for range r.Intn(30) {
			i := r.Intn(20)
			since[i] = true
			put(t, d, i, "since")
		}
		if r.Intn(2) == 0 {
			d.Fuse(0)
			d.Flush()
		}
		d.Crash(r.Uint64())
		for i := range want {
			if b, _ := d.Read(i); string(b[:5]) == "since" && since[i] {
				continue
			}
			see(t, d, i, want[i])
		}
	}
}

// P7.3: a crash with all bits set changes nothing that is seen.
func TestCrashOfAllBits(t *testing.T) {
	r := rand.New(rand.NewSource(74))
	for range 300 {
		d := fresh(t, 5, 64)
		for range r.Intn(150) {
			put(t, d, r.Intn(5), strings.Repeat(string(rune('a'+r.Intn(26))), r.Intn(65)))
			if r.Intn(40) == 0 {
				flush(t, d)
			}
		}
		var seen [5][]byte
		for i := range seen {
			seen[i], _ = d.Read(i)
		}
		d.Crash(math.MaxUint64)
		d.Crash(0) // and then it lasts
		for i := range seen {
			if b, e := d.Read(i); !bytes.Equal(b, seen[i]) || e != api.OK {
				t.Fatalf("sector %d: %.20q, error %d; asked for %.20q", i, b, e, seen[i])
			}
		}
	}
}

// P7.1, P7.2: whatever is done, it is as it is told.
func TestAsTold(t *testing.T) {
	for seed := range int64(200) {
		r := rand.New(rand.NewSource(seed))
		sectors, size := 1+r.Intn(12), 64+r.Intn(40)
		d, want := fresh(t, sectors, size), tell(sectors, size)
		for range 300 {
			e, asked := api.OK, api.OK
			switch k := r.Intn(100); {
			case k < 70:
				i, s := r.Intn(sectors+2)-1, strings.Repeat(string([]byte{byte(r.Intn(256))}), r.Intn(size+2))
				e, asked = d.Write(i, []byte(s)), want.write(i, s)
			case k < 72:
				e, asked = d.Flush(), want.flush()
			case k < 76:
				n := r.Intn(60) - 10
				d.Fuse(n)
				want.fuse = n
			case k < 78 || want.dark && k < 90:
				pattern := r.Uint64() & r.Uint64()
				d.Crash(pattern)
				want.crash(pattern)
			}
			if e != asked {
				t.Fatalf("seed %d: error %d, asked for %d", seed, e, asked)
			}
			want.same(t, d)
		}
	}
}

// R4: what is handed in isn't kept, and what is told is the caller's.
func TestNewMemory(t *testing.T) {
	d := fresh(t, 1, 64)
	for range 2 {
		all := []byte("abc" + strings.Repeat("\xee", 80))
		if d.Write(0, all[:3]) != api.OK || string(all) != "abc"+strings.Repeat("\xee", 80) {
			t.Error("what was written has changed")
		}
		all[0] = 'X'
		see(t, d, 0, "abc")
		b, _ := d.Read(0)
		b[0], b[63] = 'X', 'X'
		see(t, d, 0, "abc")
		flush(t, d)
		b, _ = d.Read(0)
		b[0], b[63] = 'X', 'X'
		see(t, d, 0, "abc")
		all[1] = 'X'
		see(t, d, 0, "abc")
	}
	one, two := fresh(t, 1, 64), fresh(t, 1, 64)
	put(t, one, 0, "a")
	flush(t, one)
	two.Fuse(0)
	see(t, two, 0, "")
	if one.Deeds() != 2 || two.Deeds() != 0 || one.Flush() != api.OK {
		t.Error("disks share what they have")
	}
}

// R1, R2: nobody is there.
func TestNil(t *testing.T) {
	var d *Disk
	d.Fuse(0)
	d.Crash(math.MaxUint64)
	for _, i := range []int{math.MinInt, -1, 0, math.MaxInt} {
		if e := d.Write(i, make([]byte, 2000)); e != api.ErrNil {
			t.Error(e)
		}
		if b, e := d.Read(i); b != nil || e != api.ErrNil {
			t.Error(b, e)
		}
	}
	if e := d.Flush(); e != api.ErrNil {
		t.Error(e)
	}
	if d.Dark() || d.Sectors() != 0 || d.Size() != 0 || d.Deeds() != 0 || d.Waits() != 0 {
		t.Error(d.Dark(), d.Sectors(), d.Size(), d.Deeds(), d.Waits())
	}
}

// R1: a disk that New didn't make has no sectors.
func TestZeroDisk(t *testing.T) {
	d := &Disk{}
	if d.Write(0, nil) != api.ErrArg || d.Flush() != api.OK || d.Sectors() != 0 || d.Size() != 0 {
		t.Error("sectors out of nothing")
	}
	if b, e := d.Read(0); b != nil || e != api.ErrArg {
		t.Error(b, e)
	}
	d.Crash(0)
}

// R1: many writes wait, and are still read at once.
func TestManyWait(t *testing.T) {
	d := fresh(t, 600, 64)
	const many = 300000
	for k := range many {
		put(t, d, k%7, string([]byte{byte(k)}))
		see(t, d, k%7, string([]byte{byte(k)}))
		see(t, d, 599, "")
	}
	if d.Waits() != many || d.Deeds() != many {
		t.Error(d.Waits(), d.Deeds())
	}
	d.Crash(1) // the last number of sector 0 to 6 that is 0 modulo 64 comes to last
	for i := range 7 {
		last := many - 1
		for last%64 != 0 || last%7 != i {
			last--
		}
		see(t, d, i, string([]byte{byte(last)}))
	}
}
