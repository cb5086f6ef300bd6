package pack

import (
	"bytes"
	"math"
	"math/big"
	"math/rand"
	"slices"
	"strings"
	"testing"

	"needlebeam/api"
)

const (
	most  = math.MaxInt64
	least = math.MinInt64
)

// long is a text of MaxText bytes.
var long = strings.Repeat("x", 200)

// digits is a number from 0 on to the base of 128, the lowest digit first: it
// says by division what the words say of groups of bits.
func digits(n *big.Int) string {
	base, digit := big.NewInt(128), new(big.Int)
	rest, _ := new(big.Int).DivMod(n, base, digit)
	if rest.Sign() == 0 {
		return string([]byte{byte(digit.Int64())})
	}
	return string([]byte{128 + byte(digit.Int64())}) + digits(rest)
}

func number(n uint64) string {
	return digits(new(big.Int).SetUint64(n))
}

// whole is its double, or its double's opposite less 1.
func whole(n int64) string {
	double := new(big.Int).Mul(big.NewInt(n), big.NewInt(2))
	if n < 0 {
		double.Neg(double).Sub(double, big.NewInt(1))
	}
	return digits(double)
}

func text(s string) string {
	return number(uint64(len(s))) + s
}

// packed is a plain value as the words say it.
func packed(v api.Value) string {
	switch v.Kind {
	case 1:
		return "\x01" + whole(v.N)
	case 2:
		return "\x02" + text(v.S)
	case 3:
		return "\x03" + string([]byte{byte(v.N)})
	}
	return "\x00"
}

func packedRow(l []api.Value) string {
	s := number(uint64(len(l)))
	for _, v := range l {
		s += packed(v)
	}
	return s
}

// numbers are such as stand at the ends of bytes, and of all.
func numbers() []uint64 {
	l := []uint64{0, 1, 2, 63, 64, 100, 200, 300, 1000, 65536, most - 1, most, most + 1, math.MaxUint64 - 1, math.MaxUint64}
	for shift := 7; shift < 64; shift += 7 {
		l = append(l, 1<<shift-1, 1<<shift, 1<<shift+1)
	}
	return l
}

// wholes are likewise, of both signs.
func wholes() []int64 {
	l := []int64{least, least + 1, most - 1, most, -300, 300}
	for _, n := range numbers() {
		l = append(l, int64(n>>1), -int64(n>>1), -int64(n>>1)-1)
	}
	return l
}

// values are plain ones of all kinds, at their ends.
func values() []api.Value {
	l := []api.Value{{}, {Kind: 3}, {Kind: 3, N: 1}}
	for _, n := range wholes() {
		l = append(l, api.Value{Kind: 1, N: n})
	}
	for _, s := range []string{"", "a", "ab", "It's", "\x00", "\x80\xff", "\xc3\xa4", long[:127], long[:128], long[:199], long} {
		l = append(l, api.Value{Kind: 2, S: s})
	}
	return l
}

// odd are values that aren't plain.
func odd() []api.Value {
	return []api.Value{
		{N: 1}, {S: "a"}, {Kind: 1, N: 5, S: "5"}, {Kind: 2, N: 1, S: "a"}, {Kind: 2, S: long + "y"},
		{Kind: 3, N: 2}, {Kind: 3, N: -1}, {Kind: 3, N: 256}, {Kind: 3, N: 257}, {Kind: 3, N: 1, S: "a"},
		{Kind: 4}, {Kind: 7}, {Kind: -1}, {Kind: 256}, {Kind: 257, N: 1}, {Kind: 258, S: "a"}, {Kind: math.MaxInt}, {Kind: math.MinInt},
	}
}

// behinds are what may stand behind a thing that is packed.
func behinds() []string {
	return []string{"", "\x00", "\x01", "\x80", "\xff\xff", "\x04\x00\x01\x09", long}
}

// check asks of a thing whether it is packed as want says, behind what stood
// there, and got back from there, with what stands behind it.
func check[T any](t *testing.T, x T, want string, put func([]byte, T) []byte, get func([]byte) (T, []byte, api.Errno), same func(a, b T) bool) {
	t.Helper()
	for _, ahead := range []string{"", "a", "\x80", long} {
		if b := put([]byte(ahead), x); string(b) != ahead+want {
			t.Fatalf("%.30v is packed as %.30x; asked for %.30x", x, b, ahead+want)
		}
	}
	if b := put(nil, x); string(b) != want {
		t.Fatalf("%.30v is packed as %.30x; asked for %.30x", x, b, want)
	}
	for _, behind := range behinds() {
		b := []byte(want + behind)
		got, rest, e := get(b)
		if !same(got, x) || string(rest) != behind || e != api.OK {
			t.Fatalf("%.30x: %.30v, %.30x, error %d; asked for %.30v, %.30x", b, got, rest, e, x, behind)
		}
		if string(b) != want+behind {
			t.Fatal("what was handed in has changed")
		}
	}
	step := max(1, len(want)/100)
	for i := 0; i < len(want); i += step {
		refuse(t, want[:i], get)
	}
	refuse(t, want[:len(want)-1], get)
}

// refuse asks whether such bytes are no thing of that kind.
func refuse[T any](t *testing.T, s string, get func([]byte) (T, []byte, api.Errno)) {
	t.Helper()
	var none T
	x, rest, e := get([]byte(s))
	if !equal(x, none) || rest != nil || e != api.ErrText {
		t.Errorf("%.30x of %d bytes: %.30v, %.30x, error %d; asked for error %d", s, len(s), x, rest, e, api.ErrText)
	}
}

// equal is for things of any kind that is packed: a list is only the same as
// none if it is none.
func equal[T any](a, b T) bool {
	l, isRow := any(a).([]api.Value)
	m, _ := any(b).([]api.Value)
	if isRow {
		return (l == nil) == (m == nil) && slices.Equal(l, m)
	}
	return any(a) == any(b)
}

// P5.1, P5.2, P5.3, and the chapter's example.
func TestUint(t *testing.T) {
	for n, want := range map[uint64]string{
		0: "\x00", 1: "\x01", 127: "\x7f", 128: "\x80\x01", 129: "\x81\x01", 255: "\xff\x01", 256: "\x80\x02", 300: "\xac\x02",
		16383: "\xff\x7f", 16384: "\x80\x80\x01",
		1 << 63:        "\x80\x80\x80\x80\x80\x80\x80\x80\x80\x01",
		math.MaxUint64: "\xff\xff\xff\xff\xff\xff\xff\xff\xff\x01",
	} {
		check(t, n, want, Uint, GetUint, equal)
	}
	for _, n := range numbers() {
		check(t, n, number(n), Uint, GetUint, equal)
	}
}

// P5.1, P5.2, P5.3
func TestInt(t *testing.T) {
	for n, want := range map[int64]string{
		0: "\x00", -1: "\x01", 1: "\x02", -2: "\x03", 2: "\x04", 63: "\x7e", -64: "\x7f", 64: "\x80\x01", -65: "\x81\x01",
		most:  "\xfe\xff\xff\xff\xff\xff\xff\xff\xff\x01",
		least: "\xff\xff\xff\xff\xff\xff\xff\xff\xff\x01",
	} {
		check(t, n, want, Int, GetInt, equal)
	}
	for _, n := range wholes() {
		check(t, n, whole(n), Int, GetInt, equal)
	}
}

// P5.1, P5.2, P5.3
func TestText(t *testing.T) {
	for s, want := range map[string]string{
		"": "\x00", "a": "\x01a", "\x00": "\x01\x00", "It's": "\x04It's", "\xff\x80": "\x02\xff\x80", "\xc3\xa4": "\x02\xc3\xa4",
		long[:127]: "\x7f" + long[:127], long[:128]: "\x80\x01" + long[:128],
		long: "\xc8\x01" + long, long + "y": "\xc9\x01" + long + "y", // no value's, so it may be longer
		strings.Repeat("z", 65535): "\xff\xff\x03" + strings.Repeat("z", 65535),
		strings.Repeat("z", 65536): "\x80\x80\x04" + strings.Repeat("z", 65536),
	} {
		check(t, s, want, Text, GetText, equal)
	}
}

// P5.1, P5.2, P5.3
func TestValue(t *testing.T) {
	for v, want := range map[api.Value]string{
		{}: "\x00", {Kind: 3}: "\x03\x00", {Kind: 3, N: 1}: "\x03\x01",
		{Kind: 1}: "\x01\x00", {Kind: 1, N: -5}: "\x01\x09", {Kind: 1, N: 150}: "\x01\xac\x02",
		{Kind: 1, N: least}: "\x01\xff\xff\xff\xff\xff\xff\xff\xff\xff\x01",
		{Kind: 2}:           "\x02\x00", {Kind: 2, S: "ab"}: "\x02\x02ab", {Kind: 2, S: long}: "\x02\xc8\x01" + long,
	} {
		check(t, v, want, Value, GetValue, equal)
	}
	for _, v := range values() {
		check(t, v, packed(v), Value, GetValue, equal)
	}
}

// P5.1: what isn't plain is packed as null, alone and in a row.
func TestValueOfOdd(t *testing.T) {
	for _, v := range odd() {
		if b := Value([]byte("a"), v); string(b) != "a\x00" {
			t.Errorf("%v is packed as %x", v, b)
		}
		five := api.Value{Kind: 1, N: 5}
		l := []api.Value{v, five, v}
		if b := Row([]byte("a"), l); string(b) != "a\x03\x00\x01\x0a\x00" || Size(l) != 5 {
			t.Errorf("%v in a row is packed as %x, in %d bytes", v, b, Size(l))
		}
		if l[0] != v || l[1] != five || l[2] != v {
			t.Error("what was handed in has changed:", l)
		}
	}
}

// P5.1, P5.2, P5.3
func TestRow(t *testing.T) {
	mixed := []api.Value{{}, {Kind: 1, N: -5}, {Kind: 2, S: "ab"}, {Kind: 3, N: 1}}
	if s := packedRow(mixed); s != "\x04\x00\x01\x09\x02\x02ab\x03\x01" {
		t.Fatalf("%x", s)
	}
	longs := slices.Repeat([]api.Value{{Kind: 2, S: long}}, 1000)
	for _, l := range [][]api.Value{
		{}, {{}}, {{Kind: 2}}, mixed, values(), slices.Repeat(mixed, 32), slices.Repeat(mixed, 250), make([]api.Value, 127), make([]api.Value, 128),
		make([]api.Value, 999), make([]api.Value, 1000), longs,
	} {
		check(t, l, packedRow(l), Row, GetRow, slices.Equal)
		if n := Size(l); n != len(packedRow(l)) {
			t.Errorf("%d values have %d bytes; asked for %d", len(l), n, len(packedRow(l)))
		}
	}
	if b := Row([]byte("a"), nil); string(b) != "a\x00" || Size(nil) != 1 {
		t.Errorf("no values: %x, %d", b, Size(nil))
	}
}

// P5.1: Size of a row by its values, also where more of them are than are got.
func TestSize(t *testing.T) {
	for _, v := range values() {
		for n, head := range map[int]int{1: 1, 2: 1, 127: 1, 128: 2, 1001: 2, 20000: 3} {
			if size := Size(slices.Repeat([]api.Value{v}, n)); size != head+n*len(packed(v)) {
				t.Errorf("%d of %.30v: %d", n, v, size)
			}
		}
	}
}

// wrongNumbers are bytes that no number from 0 on is packed as.
func wrongNumbers() []string {
	ones, noughts := strings.Repeat("\xff", 9), strings.Repeat("\x80", 9)
	return []string{
		"", "\x80", "\xff", "\x80\x80", // they end too soon
		ones, noughts, ones + "\x80", ones + "\x81",
		"\x80\x00", "\x81\x00", "\xff\x00", "\xac\x82\x00", "\x80\x80\x00", ones + "\x00", noughts + "\x00", // a byte more than needed
		noughts + "\x80\x00", noughts + "\x81\x00", ones + "\x81\x00", ones + "\x80\x80\x00",
		ones + "\x02", ones + "\x03", ones + "\x7f", noughts + "\x02", noughts + "\x03", noughts + "\x40", // above 64 bits
		noughts + "\x80\x01", ones + "\x81\x01", ones + "\xff\x01", noughts + "\x81\x01", noughts + "\x80\x80\x01",
		strings.Repeat("\xff", 100000) + "\x01", strings.Repeat("\x80", 100000) + "\x01", strings.Repeat("\x80", 100000),
	}
}

// P5.2: a number that is packed wrongly is refused, wherever it stands.
func TestWrongNumbers(t *testing.T) {
	for _, s := range wrongNumbers() {
		tails := []string{""}
		if s != "" && s[len(s)-1] < 0x80 { // the number ends, and what stands behind doesn't heal it
			tails = append(tails, "\x00", long)
		}
		for _, tail := range tails {
			refuse(t, s+tail, GetUint)
			refuse(t, s+tail, GetInt)
			refuse(t, s+tail, GetText)
			refuse(t, s+tail, GetRow)
			refuse(t, "\x01"+s+tail, GetValue)
			refuse(t, "\x02"+s+tail, GetValue)
			refuse(t, "\x01\x01"+s+tail, GetRow)
			refuse(t, "\x03\x00\x02"+s+tail, GetRow)
		}
	}
}

// P5.2
func TestWrongTexts(t *testing.T) {
	for _, n := range numbers() {
		if n > 65536 {
			refuse(t, number(n), GetText)
			refuse(t, number(n)+long, GetText)
		} else if n > 0 {
			refuse(t, number(n)+strings.Repeat("a", int(n)-1), GetText)
		}
		if n > 200 {
			refuse(t, "\x02"+number(n)+strings.Repeat("a", 1<<17), GetValue)
		}
	}
	refuse(t, number(65537)+strings.Repeat("a", 65537), GetText)
	refuse(t, number(100000)+strings.Repeat("a", 200000), GetText)
	refuse(t, "\x02"+text(long+"y"), GetValue)
	refuse(t, "\x02"+text(long+"y")+"\x00", GetValue)
	refuse(t, "\x01\x02"+text(long+"y"), GetRow)
	refuse(t, "\x02\x00\x02"+text(long+long), GetRow)
}

// P5.2
func TestWrongValues(t *testing.T) {
	for kind := 4; kind < 256; kind++ {
		for _, tail := range []string{"", "\x00", "\x01", "\x01a"} {
			s := string([]byte{byte(kind)}) + tail
			refuse(t, s, GetValue)
			refuse(t, "\x01"+s, GetRow)
			refuse(t, "\x02\x00"+s, GetRow)
		}
	}
	for n := 2; n < 256; n++ {
		s := "\x03" + string([]byte{byte(n)})
		refuse(t, s, GetValue)
		refuse(t, s+"\x00", GetValue)
		refuse(t, "\x02\x00"+s+"\x00", GetRow)
	}
}

// P5.2
func TestWrongRows(t *testing.T) {
	for _, n := range numbers() {
		if n > 1000 {
			refuse(t, number(n), GetRow)
			refuse(t, number(n)+strings.Repeat("\x00", 70000), GetRow)
		}
	}
	refuse(t, number(1001)+strings.Repeat("\x00", 1001), GetRow)
	refuse(t, string(Row(nil, make([]api.Value, 1001))), GetRow)
	refuse(t, number(1000)+strings.Repeat("\x00", 999), GetRow)
}

// exactly asks whether what is got of s, if it is, is packed just so.
func exactly[T any](t *testing.T, s string, put func([]byte, T) []byte, get func([]byte) (T, []byte, api.Errno)) {
	x, rest, e := get([]byte(s))
	switch e {
	case api.OK:
		if string(put(nil, x))+string(rest) != s {
			t.Fatalf("%x: got %v and %x", s, x, rest)
		}
	case api.ErrText:
		refuse(t, s, get)
	default:
		t.Fatalf("%x: error %d", s, e)
	}
}

func exactlyAll(t *testing.T, s string) {
	exactly(t, s, Uint, GetUint)
	exactly(t, s, Int, GetInt)
	exactly(t, s, Text, GetText)
	exactly(t, s, Value, GetValue)
	exactly(t, s, Row, GetRow)
}

// P5.3: at all bytes up to 2, and at more of such as say something.
func TestExactly(t *testing.T) {
	for a := range 256 {
		exactlyAll(t, string([]byte{byte(a)}))
		for b := range 256 {
			exactlyAll(t, string([]byte{byte(a), byte(b)}))
		}
	}
	const letters = "\x00\x01\x02\x03\x04\x7f\x80\xff"
	last := []string{""}
	for range 5 {
		var longer []string
		for _, s := range last {
			exactlyAll(t, s)
			for i := range len(letters) {
				longer = append(longer, s+letters[i:i+1])
			}
		}
		last = longer
	}
}

func FuzzExactly(f *testing.F) {
	for _, s := range append(wrongNumbers(), packedRow(values()), text(long), "\x02\x03\x01\x02\x02ab") {
		f.Add([]byte(s[:min(len(s), 2000)]))
	}
	f.Fuzz(func(t *testing.T, b []byte) {
		exactlyAll(t, string(b))
	})
}

// P5.3: rows that are drawn, and with a byte turned.
func TestDrawnRows(t *testing.T) {
	r := rand.New(rand.NewSource(7))
	all := append(values(), odd()...)
	for range 2000 {
		l := make([]api.Value, r.Intn(20))
		plain := make([]api.Value, len(l))
		for i := range l {
			n := r.Intn(len(all))
			l[i] = all[n]
			if n < len(values()) {
				plain[i] = l[i]
			}
		}
		b := Row([]byte("ahead"), l)
		if string(b) != "ahead"+packedRow(plain) || Size(l) != len(b)-5 {
			t.Fatalf("%v: %x", l, b)
		}
		b = append(b[5:], "behind"...)
		if got, rest, e := GetRow(b); !slices.Equal(got, plain) || string(rest) != "behind" || e != api.OK {
			t.Fatalf("%v: %v, %x, error %d", plain, got, rest, e)
		}
		b[r.Intn(len(b))] = byte(r.Intn(256))
		exactlyAll(t, string(b))
	}
}

// R4: what is packed behind a list with room leaves that room as it is.
func TestPackedIsNew(t *testing.T) {
	for name, put := range map[string]func([]byte) []byte{
		"number": func(b []byte) []byte { return Uint(b, 0) },
		"whole":  func(b []byte) []byte { return Int(b, 0) },
		"text":   func(b []byte) []byte { return Text(b, "") },
		"value":  func(b []byte) []byte { return Value(b, api.Value{}) },
		"row":    func(b []byte) []byte { return Row(b, nil) },
	} {
		for _, ahead := range []string{"", "a", long} {
			all := []byte(ahead + strings.Repeat("\xee", 50))
			b := all[:len(ahead)]
			first, second := put(b), put(b)
			if string(all) != ahead+strings.Repeat("\xee", 50) {
				t.Errorf("%s behind %d bytes: the room behind has changed", name, len(ahead))
			}
			if string(first) != ahead+"\x00" || string(second) != ahead+"\x00" {
				t.Errorf("%s behind %d bytes: %x, %x", name, len(ahead), first, second)
			}
			for i := range first {
				first[i] = 0xdd
			}
			if string(all) != ahead+strings.Repeat("\xee", 50) || string(second) != ahead+"\x00" {
				t.Errorf("%s behind %d bytes: memory is shared", name, len(ahead))
			}
		}
	}
}

// R4: what is got is the caller's.
func TestGotIsNew(t *testing.T) {
	for name, get := range map[string]func([]byte) ([]byte, api.Errno){
		"number": func(b []byte) ([]byte, api.Errno) { _, rest, e := GetUint(b); return rest, e },
		"whole":  func(b []byte) ([]byte, api.Errno) { _, rest, e := GetInt(b); return rest, e },
		"text":   func(b []byte) ([]byte, api.Errno) { _, rest, e := GetText(b); return rest, e },
		"value":  func(b []byte) ([]byte, api.Errno) { _, rest, e := GetValue(b); return rest, e },
		"row":    func(b []byte) ([]byte, api.Errno) { _, rest, e := GetRow(b); return rest, e },
	} {
		b := []byte("\x00behind")
		rest, e := get(b)
		if string(rest) != "behind" || e != api.OK {
			t.Fatalf("%s: %q, error %d", name, rest, e)
		}
		rest[0] = 'X'
		_ = append(rest[:1], "YZ"...)
		if string(b) != "\x00behind" {
			t.Errorf("%s: memory is shared: %q", name, b)
		}
	}
	b := Row(nil, []api.Value{{Kind: 2, S: "ab"}, {Kind: 1, N: 7}})
	l, _, _ := GetRow(b)
	clear(b)
	if !slices.Equal(l, []api.Value{{Kind: 2, S: "ab"}, {Kind: 1, N: 7}}) {
		t.Error(l)
	}
	b = Text(nil, "ab")
	s, _, _ := GetText(b)
	clear(b)
	if s != "ab" {
		t.Error(s)
	}
}

// R1: nil lists.
func TestNil(t *testing.T) {
	for i, b := range [][]byte{Uint(nil, 0), Int(nil, 0), Text(nil, ""), Value(nil, api.Value{}), Row(nil, nil)} {
		if !bytes.Equal(b, []byte{0}) {
			t.Error(i, b)
		}
	}
	for _, b := range [][]byte{nil, {}} {
		refuse(t, string(b), GetUint)
		if l, rest, e := GetRow(b); l != nil || rest != nil || e != api.ErrText {
			t.Error(l, rest, e)
		}
		if v, rest, e := GetValue(b); v != (api.Value{}) || rest != nil || e != api.ErrText {
			t.Error(v, rest, e)
		}
	}
}
