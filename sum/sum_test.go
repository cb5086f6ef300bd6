package sum

import (
	"bytes"
	"encoding/binary"
	"hash/crc32"
	"math"
	"math/rand"
	"strings"
	"testing"

	"needlebeam/api"
)

// summed is the sum as the words say it, bit by bit.
func summed(b []byte) uint32 {
	register := uint32(0xFFFFFFFF)
	for _, c := range b {
		register ^= uint32(c)
		for range 8 {
			out := register & 1
			register >>= 1
			if out != 0 {
				register ^= 0xEDB88320
			}
		}
	}
	return register ^ 0xFFFFFFFF
}

// number is 4 bytes, the lowest first.
func number(n uint32) string {
	s := ""
	for range 4 {
		s += string([]byte{byte(n % 256)})
		n /= 256
	}
	return s
}

// sealed is the record as the words say it.
func sealed(epoch uint32, s string) string {
	return number(uint32(len(s))) + number(summed([]byte(number(epoch)+s))) + number(epoch) + s
}

// epochs are such as stand at the ends of bytes, and of all.
func epochs() []uint32 {
	return []uint32{0, 1, 2, 127, 128, 255, 256, 257, 65535, 65536, 0x01020304, 0x04030201, 1<<31 - 1, 1 << 31, math.MaxUint32 - 1, math.MaxUint32}
}

// texts are bytes of many lengths, at the ends of a length's bytes among them.
func texts() []string {
	l := []string{"", "a", "abc", "123456789", "needlebeam", "\x00", "\x00\x00\x00\x00", "\xff\xff\xff\xff", "\x80", "It's\x00\xc3\xa4"}
	for _, n := range []int{12, 13, 52, 255, 256, 257, 1024, 65535, 65536, 70000} {
		l = append(l, strings.Repeat("x", n), strings.Repeat("\x00", n))
	}
	return append(l, drawn(rand.New(rand.NewSource(6)), 1000))
}

func drawn(r *rand.Rand, n int) string {
	b := make([]byte, n)
	for i := range b {
		b[i] = byte(r.Intn(256))
	}
	return string(b)
}

// P6.1: sums that are widely known.
func TestKnownSums(t *testing.T) {
	for s, want := range map[string]uint32{
		"":                 0,
		"a":                0xE8B7BE43,
		"123456789":        0xCBF43926,
		"\x00":             0xD202EF8D,
		"\x00\x00\x00\x00": 0x2144DF1C,
		"\xff\xff\xff\xff": 0xFFFFFFFF,
		"The quick brown fox jumps over the lazy dog": 0x414FA339,
	} {
		if n := Of([]byte(s)); n != want {
			t.Errorf("%q: %X, asked for %X", s, n, want)
		}
	}
	if n := Of(nil); n != 0 {
		t.Errorf("nil: %X", n)
	}
}

// P6.1: all of one byte and of two, so that each low byte comes up; longer ones.
func TestOf(t *testing.T) {
	check := func(b []byte) {
		if n := Of(b); n != summed(b) || n != crc32.ChecksumIEEE(b) {
			t.Fatalf("%.30x: %X, asked for %X", b, n, summed(b))
		}
	}
	for a := range 256 {
		check([]byte{byte(a)})
		for b := range 256 {
			check([]byte{byte(a), byte(b)})
		}
	}
	for _, s := range texts() {
		check([]byte(s))
	}
	r := rand.New(rand.NewSource(61))
	for n := range 300 {
		check([]byte(drawn(r, n)))
	}
}

// P6.1: bytes that come in two parts, and one by one.
func TestOn(t *testing.T) {
	r := rand.New(rand.NewSource(62))
	for _, s := range []string{"", "a", "123456789", "\x00\x00\x00\x00\x00", drawn(r, 300)} {
		whole, single := summed([]byte(s)), uint32(0)
		for i := range len(s) + 1 {
			if n := On(Of([]byte(s[:i])), []byte(s[i:])); n != whole {
				t.Errorf("%.30x, parted at %d: %X, asked for %X", s, i, n, whole)
			}
		}
		for i := range len(s) {
			single = On(single, []byte(s[i:i+1]))
		}
		if single != whole || On(0, []byte(s)) != whole {
			t.Errorf("%.30x: %X one by one, %X at once, asked for %X", s, single, On(0, []byte(s)), whole)
		}
	}
}

// P6.1: any number is the sum of some bytes, with others behind.
func TestOnAnySum(t *testing.T) {
	r := rand.New(rand.NewSource(63))
	sums := epochs()
	for range 300 {
		sums = append(sums, r.Uint32())
	}
	for _, sum := range sums {
		if On(sum, nil) != sum || On(sum, []byte{}) != sum {
			t.Errorf("%X: without bytes behind it comes to %X", sum, On(sum, nil))
		}
		b := []byte(drawn(r, 1+r.Intn(20)))
		if n := On(sum, b); n != crc32.Update(sum, crc32.IEEETable, b) {
			t.Errorf("%X, %x: %X", sum, b, n)
		}
	}
}

// P6.2: byte by byte.
func TestSealedBytes(t *testing.T) {
	for _, x := range []struct {
		epoch   uint32
		s, want string
	}{
		{0, "", "\x00\x00\x00\x00" + "\x1c\xdf\x44\x21" + "\x00\x00\x00\x00"},
		{math.MaxUint32, "", "\x00\x00\x00\x00" + "\xff\xff\xff\xff" + "\xff\xff\xff\xff"},
		{0x34333231, "56789", "\x05\x00\x00\x00" + "\x26\x39\xf4\xcb" + "1234" + "56789"},
	} {
		if b := Seal(x.epoch, []byte(x.s)); string(b) != x.want {
			t.Errorf("%X, %q: %x, asked for %x", x.epoch, x.s, b, x.want)
		}
	}
	if b := Seal(0, nil); string(b) != sealed(0, "") {
		t.Errorf("nil: %x", b)
	}
}

// P6.2, P6.3: what is sealed is opened, whatever stands behind it.
func TestSealAndOpen(t *testing.T) {
	for _, epoch := range epochs() {
		for _, s := range texts() {
			record := sealed(epoch, s)
			if b := Seal(epoch, []byte(s)); string(b) != record {
				t.Fatalf("%X, %.30x: sealed as %.30x, asked for %.30x", epoch, s, b, record)
			}
			for _, behind := range []string{"", "\x00", "\xff", "behind", sealed(epoch, "next")} {
				b, n, e := Open(epoch, []byte(record+behind))
				if string(b) != s || n != len(record) || e != api.OK {
					t.Fatalf("%X, %.30x: %.30x, %d, error %d", epoch, record, b, n, e)
				}
			}
		}
	}
}

// refuse asks whether b isn't opened, and nothing told.
func refuse(t *testing.T, epoch uint32, s string, want api.Errno) {
	t.Helper()
	b := []byte(s)
	got, n, e := Open(epoch, b)
	if got != nil || n != 0 || e != want {
		t.Fatalf("%X, %.40x: %.30x, %d, error %d; asked for error %d", epoch, s, got, n, e, want)
	}
	if string(b) != s {
		t.Fatal("what was handed in has changed")
	}
}

// P6.2: too few bytes, ahead of whatever else is wrong.
func TestTooFewBytes(t *testing.T) {
	if got, n, e := Open(0, nil); got != nil || n != 0 || e != api.ErrText {
		t.Error(got, n, e)
	}
	for _, s := range []string{"", "a", "abc", strings.Repeat("x", 256)} {
		record := sealed(7, s)
		for i := range len(record) {
			refuse(t, 7, record[:i], api.ErrText)
			refuse(t, 8, record[:i], api.ErrText)
		}
	}
	head := sealed(7, "abc")[4:]
	for _, n := range []uint32{4, 5, 256, 65536, 1 << 24, 1<<31 - 1, 1 << 31, math.MaxUint32 - 12, math.MaxUint32 - 11, math.MaxUint32} {
		refuse(t, 7, number(n)+head, api.ErrText)
		refuse(t, 8, number(n)+head, api.ErrText)
		refuse(t, 7, number(n)+head[:8], api.ErrText)
	}
}

// P6.2
func TestAnotherEpoch(t *testing.T) {
	for _, of := range epochs() {
		for _, asked := range epochs() {
			if of == asked {
				continue
			}
			refuse(t, asked, sealed(of, "abc"), api.ErrSum)
			refuse(t, asked, sealed(of, ""), api.ErrSum)
			record := sealed(of, "abc")
			refuse(t, asked, record[:8]+number(asked)+record[12:], api.ErrSum) // the epoch that is asked for, with the other's sum
			refuse(t, of, record[:8]+number(asked)+record[12:], api.ErrSum)
		}
	}
}

// P6.2: a sum of all but the epoch, of nothing, of the length, too; a length
// that is less; bytes of 0, as a new disk has them.
func TestAnotherSum(t *testing.T) {
	for _, x := range []string{"abc", number(3) + number(7) + "abc", number(3) + "abc", "abc" + number(7), "", number(7)} {
		refuse(t, 7, number(3)+number(summed([]byte(x)))+number(7)+"abc", api.ErrSum)
	}
	right := summed([]byte(number(7) + "abc"))
	for _, sum := range []uint32{0, 1, right + 1, right - 1, ^right, right << 8, right >> 8, math.MaxUint32} {
		refuse(t, 7, number(3)+number(sum)+number(7)+"abc", api.ErrSum)
	}
	for n := range uint32(3) {
		refuse(t, 7, number(n)+sealed(7, "abc")[4:], api.ErrSum)
		refuse(t, 7, number(n)+sealed(7, "\x00\x00\x00")[4:], api.ErrSum)
	}
	for n := 12; n < 300; n++ {
		refuse(t, 0, strings.Repeat("\x00", n), api.ErrSum)
	}
}

// P6.2
func TestLength(t *testing.T) {
	for _, n := range []int{0, 1, 3, 255, 256, 8000, 65536} {
		if Length(n) != n+12 || Length(n) != len(Seal(1, make([]byte, n))) {
			t.Errorf("%d: %d", n, Length(n))
		}
	}
	for _, n := range []int{-1, -2, -12, -13, math.MinInt32, math.MinInt + 1, math.MinInt} {
		if Length(n) != 0 {
			t.Errorf("%d: %d", n, Length(n))
		}
	}
	if Length(1<<31-1) != 1<<31+11 || Length(math.MaxInt-12) != math.MaxInt {
		t.Error(Length(1<<31-1), Length(math.MaxInt-12))
	}
}

// R5: no length goes round.
func TestLengthAtTheEnd(t *testing.T) {
	for n := math.MaxInt - 11; ; n++ {
		if Length(n) != math.MaxInt {
			t.Errorf("%d: %d", n, Length(n))
		}
		if n == math.MaxInt {
			return
		}
	}
}

// P6.3: each byte behind the length, turned in each way.
func TestTurnedByte(t *testing.T) {
	r := rand.New(rand.NewSource(65))
	for _, s := range []string{"", "\x00", "a", "abc", "\x00\x00\x00\x00\x00\x00\x00\x00", drawn(r, 40)} {
		for _, epoch := range []uint32{0, 7, math.MaxUint32, r.Uint32()} {
			b := Seal(epoch, []byte(s))
			for i := 4; i < len(b); i++ {
				for turn := 1; turn < 256; turn++ {
					b[i] ^= byte(turn)
					refuse(t, epoch, string(b), api.ErrSum)
					refuse(t, binary.LittleEndian.Uint32(b[8:]), string(b)+"behind", api.ErrSum) // of the epoch that it tells now
					b[i] ^= byte(turn)
				}
			}
		}
	}
}

// P6.3: likewise in long records, at places that are drawn.
func TestTurnedByteOfMany(t *testing.T) {
	r := rand.New(rand.NewSource(66))
	for range 2000 {
		epoch := r.Uint32()
		b := Seal(epoch, []byte(drawn(r, r.Intn(2000))))
		b[4+r.Intn(len(b)-4)] ^= byte(1 + r.Intn(255))
		refuse(t, epoch, string(b), api.ErrSum)
	}
}

// R4: what is told is the caller's, and what was handed in stays as it is.
func TestNewMemory(t *testing.T) {
	all := []byte("abc" + strings.Repeat("\xee", 50))
	record := Seal(7, all[:3])
	if string(all) != "abc"+strings.Repeat("\xee", 50) {
		t.Error("what was sealed has changed")
	}
	clear(all)
	if string(record) != sealed(7, "abc") {
		t.Errorf("memory is shared: %x", record)
	}
	got, _, _ := Open(7, record)
	got[0] = 'X'
	_ = append(got, "YZ"...)
	if string(record) != sealed(7, "abc") {
		t.Errorf("memory is shared: %x", record)
	}
	got, _, _ = Open(7, record)
	clear(record)
	if string(got) != "abc" {
		t.Errorf("memory is shared: %x", got)
	}
	b := []byte("123456789")
	On(Of(b), b)
	if string(b) != "123456789" {
		t.Errorf("what was summed has changed: %q", b)
	}
}

// P6.2, P6.3: what is opened is what would be sealed so.
func FuzzOpen(f *testing.F) {
	for _, s := range []string{"", "abc", "\x00\x00\x00"} {
		f.Add(uint32(7), []byte(sealed(7, s)+"behind"))
	}
	f.Add(uint32(0), make([]byte, 12))
	f.Fuzz(func(t *testing.T, epoch uint32, b []byte) {
		record := Seal(epoch, b)
		if got, n, e := Open(epoch, record); !bytes.Equal(got, b) || n != len(record) || e != api.OK {
			t.Fatalf("%x: %x, %d, error %d", record, got, n, e)
		}
		got, n, e := Open(epoch, b)
		if e != api.OK {
			refuse(t, epoch, string(b), e)
			fits := len(b) >= 12 && int64(binary.LittleEndian.Uint32(b)) <= int64(len(b))-12
			if fits != (e == api.ErrSum) || !fits != (e == api.ErrText) {
				t.Fatalf("%X, %x: error %d", epoch, b, e)
			}
		} else if n != Length(len(got)) || string(b[:n]) != sealed(epoch, string(got)) {
			t.Fatalf("%X, %x: %x, %d", epoch, b, got, n)
		}
	})
}
