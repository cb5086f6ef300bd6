package num

import (
	"math"
	"math/big"
	"math/rand"
	"strings"
	"testing"

	"needlebeam/api"
)

const (
	most  = math.MaxInt64
	least = math.MinInt64
)

// edges are numbers at which a sum, a product or a quotient turns: 0, powers of
// two and of ten, the ends, their square roots, each with its neighbours, on
// both sides of 0.
func edges() []int64 {
	l := []int64{0, 3, 5, 6, 7, most - 1, most, most / 3, least / 3}
	for i := 0; i < 63; i++ {
		p := int64(1) << i
		l = append(l, p-1, p, p+1)
	}
	for p := int64(10); p < most/10; p *= 10 {
		l = append(l, p-1, p, p+1)
	}
	const root = 3037000499 // of most, rounded down
	l = append(l, root-1, root, root+1)
	for _, a := range l {
		l = append(l, -a)
	}
	return append(l, least, least+1)
}

// pairs hands all pairs of edges, then pairs of numbers of every length.
func pairs(f func(a, b int64)) {
	l := edges()
	for _, a := range l {
		for _, b := range l {
			f(a, b)
		}
	}
	r := rand.New(rand.NewSource(3))
	drawn := func() int64 {
		return int64(r.Uint64()) >> r.Intn(64)
	}
	for range 100000 {
		f(drawn(), drawn())
	}
}

// within is what a number of any size is in 64 bits: itself, or ErrOver.
func within(n *big.Int) (int64, api.Errno) {
	if !n.IsInt64() {
		return 0, api.ErrOver
	}
	return n.Int64(), api.OK
}

// against holds a call against what it should come to, at all pairs.
func against(t *testing.T, call func(a, b int64) (int64, api.Errno), want func(a, b *big.Int) (int64, api.Errno)) {
	t.Helper()
	wrong := 0
	pairs(func(a, b int64) {
		n, e := call(a, b)
		if wn, we := want(big.NewInt(a), big.NewInt(b)); n != wn || e != we {
			if wrong++; wrong < 10 {
				t.Errorf("of %d and %d: %d, error %d; asked for %d, error %d", a, b, n, e, wn, we)
			}
		}
	})
}

// P3.1
func TestAdd(t *testing.T) {
	against(t, Add, func(a, b *big.Int) (int64, api.Errno) {
		return within(new(big.Int).Add(a, b))
	})
}

// P3.1
func TestSub(t *testing.T) {
	against(t, Sub, func(a, b *big.Int) (int64, api.Errno) {
		return within(new(big.Int).Sub(a, b))
	})
}

// P3.1
func TestMul(t *testing.T) {
	against(t, Mul, func(a, b *big.Int) (int64, api.Errno) {
		return within(new(big.Int).Mul(a, b))
	})
}

// P3.1
func TestDiv(t *testing.T) {
	against(t, Div, func(a, b *big.Int) (int64, api.Errno) {
		if b.Sign() == 0 {
			return 0, api.ErrDiv
		}
		return within(new(big.Int).Quo(a, b))
	})
}

// P3.1
func TestRem(t *testing.T) {
	against(t, Rem, func(a, b *big.Int) (int64, api.Errno) {
		if b.Sign() == 0 {
			return 0, api.ErrDiv
		}
		return within(new(big.Int).Rem(a, b))
	})
}

// P3.1
func TestNeg(t *testing.T) {
	for _, a := range edges() {
		n, e := Neg(a)
		if wn, we := within(new(big.Int).Neg(big.NewInt(a))); n != wn || e != we {
			t.Errorf("of %d: %d, error %d; asked for %d, error %d", a, n, e, wn, we)
		}
	}
}

// P3.1: written out, so that it hangs on no other reckoning.
func TestEdges(t *testing.T) {
	for _, x := range []struct {
		name string
		call func(a, b int64) (int64, api.Errno)
		a, b int64
		want int64
		e    api.Errno
	}{
		{"Add", Add, 2, 3, 5, api.OK},
		{"Add", Add, most, least, -1, api.OK},
		{"Add", Add, most - 1, 1, most, api.OK},
		{"Add", Add, most, 1, 0, api.ErrOver},
		{"Add", Add, 1, most, 0, api.ErrOver},
		{"Add", Add, least + 1, -1, least, api.OK},
		{"Add", Add, least, -1, 0, api.ErrOver},
		{"Add", Add, least, least, 0, api.ErrOver},
		{"Sub", Sub, 2, 3, -1, api.OK},
		{"Sub", Sub, -1, least, most, api.OK},
		{"Sub", Sub, 0, least, 0, api.ErrOver},
		{"Sub", Sub, least, least, 0, api.OK},
		{"Sub", Sub, -2, most, 0, api.ErrOver},
		{"Sub", Sub, -1, most, least, api.OK},
		{"Mul", Mul, 6, 7, 42, api.OK},
		{"Mul", Mul, -6, 7, -42, api.OK},
		{"Mul", Mul, 6, -7, -42, api.OK},
		{"Mul", Mul, -6, -7, 42, api.OK},
		{"Mul", Mul, 0, least, 0, api.OK},
		{"Mul", Mul, least, 0, 0, api.OK},
		{"Mul", Mul, 1, least, least, api.OK},
		{"Mul", Mul, -1, least, 0, api.ErrOver},
		{"Mul", Mul, least, -1, 0, api.ErrOver},
		{"Mul", Mul, -1, most, -most, api.OK},
		{"Mul", Mul, least / 2, -2, 0, api.ErrOver},
		{"Mul", Mul, least / 2, 2, least, api.OK},
		{"Mul", Mul, most / 7, 7, most, api.OK},
		{"Mul", Mul, 1 << 32, 1 << 31, 0, api.ErrOver},
		{"Mul", Mul, 1 << 32, 1 << 32, 0, api.ErrOver}, // whose lower 64 bits are 0
		{"Div", Div, -7, 2, -3, api.OK},
		{"Div", Div, 7, -2, -3, api.OK},
		{"Div", Div, -7, -2, 3, api.OK},
		{"Div", Div, 1, 2, 0, api.OK},
		{"Div", Div, least, 1, least, api.OK},
		{"Div", Div, least, -1, 0, api.ErrOver},
		{"Div", Div, least + 1, -1, most, api.OK},
		{"Div", Div, 0, 0, 0, api.ErrDiv},
		{"Div", Div, least, 0, 0, api.ErrDiv},
		{"Rem", Rem, -7, 2, -1, api.OK},
		{"Rem", Rem, 7, -2, 1, api.OK},
		{"Rem", Rem, -7, -2, -1, api.OK},
		{"Rem", Rem, 6, 2, 0, api.OK},
		{"Rem", Rem, 6, -1, 0, api.OK},
		{"Rem", Rem, least, -1, 0, api.OK},
		{"Rem", Rem, least, most, -1, api.OK},
		{"Rem", Rem, most, least, most, api.OK},
		{"Rem", Rem, 0, 0, 0, api.ErrDiv},
		{"Rem", Rem, least, 0, 0, api.ErrDiv},
	} {
		if n, e := x.call(x.a, x.b); n != x.want || e != x.e {
			t.Errorf("%s of %d and %d: %d, error %d; asked for %d, error %d", x.name, x.a, x.b, n, e, x.want, x.e)
		}
	}
	if n, e := Neg(least); n != 0 || e != api.ErrOver {
		t.Error("Neg of the least number:", n, e)
	}
}

// P3.2
func TestPrint(t *testing.T) {
	for a, want := range map[int64]string{
		0: "0", 7: "7", -7: "-7", 10: "10", -120: "-120",
		most:  "9223372036854775807",
		least: "-9223372036854775808",
	} {
		if s := Print(a); s != want {
			t.Errorf("%d is printed as %q", a, s)
		}
	}
	for _, a := range edges() {
		if s := Print(a); s != big.NewInt(a).String() {
			t.Errorf("%d is printed as %q", a, s)
		}
	}
}

// P3.2
func TestRead(t *testing.T) {
	for s, want := range map[string]int64{
		"0": 0, "7": 7, "-7": -7, "10": 10, "-120": -120, "100": 100,
		"9223372036854775807":  most,
		"9223372036854775799":  most - 8,
		"-9223372036854775807": -most,
		"-9223372036854775808": least,
	} {
		if n, e := Read(s); n != want || e != api.OK {
			t.Errorf("%q is read as %d, error %d", s, n, e)
		}
	}
}

// P3.2
func TestReadOfNoPrint(t *testing.T) {
	long := strings.Repeat("9", 1000)
	for want, l := range map[api.Errno][]string{
		api.ErrConv: {
			"", "-", "--", "--1", "-+1", "+1", "+", "+0", "1-", "1-2", "- 1", " 1", "1 ", "1\n", "1\x00",
			"a", "1a", "a1", "-a", "1.0", "1e3", "0x1", "0b1", "0o7", "1_0", "1,0", "/", ":", "1/", "1:",
			"\xd9\xa1", "\xef\xbc\x91", "\xff", // digits of other scripts, and a byte of none
			"00", "01", "007", "-0", "-00", "-01", "-007",
			// wrong words, and too great as well
			long + "a", "a" + long, "+" + long, "-" + long + "-", long + "_0", long + " ",
			"0" + long, "-0" + long, strings.Repeat("0", 1000), "-" + strings.Repeat("0", 1000),
			"09223372036854775808", "-09223372036854775809", "9223372036854775808a",
		},
		api.ErrOver: {
			"9223372036854775808", "9223372036854775810", "-9223372036854775809", "-9223372036854775810",
			"9300000000000000000", "10000000000000000000", "-10000000000000000000",
			"18446744073709551615", "18446744073709551616", "18446744073709551617", "-18446744073709551616",
			long, "-" + long, "1" + strings.Repeat("0", 1000),
		},
	} {
		for _, s := range l {
			if n, e := Read(s); n != 0 || e != want {
				t.Errorf("%q is read as %d, error %d; asked for error %d", s, n, e, want)
			}
		}
	}
}

// P3.2: Read answers what the words of the promise say, at all short texts of
// such bytes as are near a print.
func TestReadOfAllShortTexts(t *testing.T) {
	const bytes = "-+019/: _a\x00\xff"
	texts := []string{""}
	for range 4 {
		var longer []string
		for _, s := range texts {
			n, e := Read(s)
			b, isNumber := new(big.Int).SetString(s, 10)
			if isNumber && b.String() == s {
				if n != b.Int64() || e != api.OK {
					t.Errorf("%q is read as %d, error %d", s, n, e)
				}
			} else if n != 0 || e != api.ErrConv {
				t.Errorf("%q is read as %d, error %d; asked for error %d", s, n, e, api.ErrConv)
			}
			for i := range len(bytes) {
				longer = append(longer, s+bytes[i:i+1])
			}
		}
		texts = longer
	}
}

// P3.3
func TestPrintedIsRead(t *testing.T) {
	check := func(a int64) {
		if n, e := Read(Print(a)); n != a || e != api.OK {
			t.Errorf("%d is read back as %d, error %d", a, n, e)
		}
	}
	for _, a := range edges() {
		check(a)
	}
	r := rand.New(rand.NewSource(4))
	for range 10000 {
		check(int64(r.Uint64()) >> r.Intn(64))
	}
}

// P3.3
func TestQuotientAndRest(t *testing.T) {
	pairs(func(a, b int64) {
		q, e := Div(a, b)
		if e != api.OK {
			return
		}
		r, e := Rem(a, b)
		if e != api.OK {
			t.Fatal("no rest", a, b, e)
		}
		p, e := Mul(q, b)
		if e != api.OK {
			t.Fatal("no product", a, b, e)
		}
		if n, e := Add(p, r); n != a || e != api.OK {
			t.Fatalf("%d times %d and %d: %d, error %d; asked for %d", q, b, r, n, e, a)
		}
	})
}
