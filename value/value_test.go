package value

import (
	"math"
	"math/rand"
	"strconv"
	"strings"
	"testing"

	"needlebeam/api"
)

const (
	most  = math.MaxInt64
	least = math.MinInt64
)

// long is a text of MaxText bytes.
var long = strings.Repeat("x", 200)

// rising are plain values, each ahead of the next one.
func rising() []api.Value {
	return []api.Value{
		{},
		{Kind: 1, N: least}, {Kind: 1, N: least + 1}, {Kind: 1, N: -10}, {Kind: 1, N: -9}, {Kind: 1, N: -1},
		{Kind: 1}, {Kind: 1, N: 1}, {Kind: 1, N: 2}, {Kind: 1, N: 10}, {Kind: 1, N: most - 1}, {Kind: 1, N: most},
		{Kind: 2}, {Kind: 2, S: "\x00"}, {Kind: 2, S: "\x00\x00"}, {Kind: 2, S: "\n"}, {Kind: 2, S: " "},
		{Kind: 2, S: "'"}, {Kind: 2, S: "''"}, {Kind: 2, S: "-1"}, {Kind: 2, S: "10"}, {Kind: 2, S: "9"},
		{Kind: 2, S: "B"}, {Kind: 2, S: "a"}, {Kind: 2, S: "a\x00"}, {Kind: 2, S: "a'"}, {Kind: 2, S: "ab"}, {Kind: 2, S: "b"},
		{Kind: 2, S: "null"}, {Kind: 2, S: "true"}, {Kind: 2, S: long[:199]}, {Kind: 2, S: long}, {Kind: 2, S: "y"},
		{Kind: 2, S: "\x7f"}, {Kind: 2, S: "\x80"}, {Kind: 2, S: "\xc3\xa4"}, {Kind: 2, S: "\xff"}, {Kind: 2, S: "\xff\xff"},
		{Kind: 3}, {Kind: 3, N: 1},
	}
}

// odd are values that aren't plain.
func odd() []api.Value {
	return []api.Value{
		{N: 1}, {N: -1}, {N: least}, {S: "a"}, {S: "\x00"}, {N: 1, S: "a"},
		{Kind: 1, S: "a"}, {Kind: 1, N: 5, S: "5"}, {Kind: 1, N: 5, S: "\x00"},
		{Kind: 2, N: 1}, {Kind: 2, N: -1, S: "a"}, {Kind: 2, S: long + "y"}, {Kind: 2, S: strings.Repeat("y", 100000)},
		{Kind: 3, N: 2}, {Kind: 3, N: -1}, {Kind: 3, N: most}, {Kind: 3, N: least}, {Kind: 3, S: "a"}, {Kind: 3, N: 1, S: "a"},
		{Kind: 4}, {Kind: 5, N: 1}, {Kind: -1}, {Kind: -2}, {Kind: -3, N: 1}, {Kind: math.MaxInt}, {Kind: math.MinInt, S: "a"},
		{Kind: 1 << 8}, {Kind: 1<<32 + 1, N: 1}, {Kind: 9, S: "a"},
	}
}

// P4.1
func TestMakers(t *testing.T) {
	if v := Null(); v != (api.Value{}) {
		t.Error(v)
	}
	for _, n := range []int64{least, -1, 0, 1, 2, most} {
		if v := Int(n); v != (api.Value{Kind: 1, N: n}) {
			t.Error(n, v)
		}
	}
	if v := Bool(false); v != (api.Value{Kind: 3}) {
		t.Error(v)
	}
	if v := Bool(true); v != (api.Value{Kind: 3, N: 1}) {
		t.Error(v)
	}
	for _, s := range []string{"", "a", "It's", "'", "null", "7", "\x00", "\xff", "\xc3\xa4", long[:199], long} {
		if v := Text(s); v != (api.Value{Kind: 2, S: s}) {
			t.Errorf("%q %v", s, v)
		}
	}
}

// P4.1: bytes are cut, not letters.
func TestTextIsCut(t *testing.T) {
	umlauts := strings.Repeat("\xc3\xa4", 150)
	for s, want := range map[string]string{
		long + "y":                     long,
		long + long:                    long,
		long[:199] + "yz":              long[:199] + "y",
		umlauts:                        umlauts[:200],
		"x" + umlauts:                  "x" + umlauts[:199],
		strings.Repeat("'", 201):       strings.Repeat("'", 200),
		strings.Repeat("\xff", 100000): strings.Repeat("\xff", 200),
	} {
		if v := Text(s); v != (api.Value{Kind: 2, S: want}) {
			t.Errorf("%q %v", s, v)
		}
	}
}

// P4.1
func TestPlain(t *testing.T) {
	for _, v := range rising() {
		if !Plain(v) {
			t.Errorf("not plain: %v", v)
		}
	}
	for _, v := range odd() {
		if Plain(v) {
			t.Errorf("plain: %v", v)
		}
	}
}

// P4.1, P4.3: all pairs of values of which each is ahead of the next, so of any three too.
func TestCompare(t *testing.T) {
	l := rising()
	for i, a := range l {
		for j, b := range l {
			want := 0
			if i < j {
				want = -1
			} else if i > j {
				want = 1
			}
			if c := Compare(a, b); c != want {
				t.Errorf("%v with %v: %d", a, b, c)
			}
		}
	}
}

// P4.1
func TestCompareOfOdd(t *testing.T) {
	others := append(rising(), odd()...)
	for _, a := range odd() {
		for _, b := range others {
			if Compare(a, b) != 0 || Compare(b, a) != 0 {
				t.Errorf("%v with %v: %d, %d", a, b, Compare(a, b), Compare(b, a))
			}
		}
	}
}

// P4.1
func TestLeast(t *testing.T) {
	l := rising()
	r := rand.New(rand.NewSource(4))
	for range 2000 {
		first := len(l)
		var drawn []api.Value
		for range r.Intn(6) {
			if r.Intn(3) == 0 {
				drawn = append(drawn, odd()[r.Intn(len(odd()))])
				continue
			}
			i := r.Intn(len(l))
			first = min(first, i)
			drawn = append(drawn, l[i])
		}
		v, ok := Least(drawn)
		if first == len(l) {
			if v != (api.Value{}) || ok {
				t.Fatalf("of %v: %v, %v", drawn, v, ok)
			}
		} else if v != l[first] || !ok {
			t.Fatalf("of %v: %v, %v; asked for %v", drawn, v, ok, l[first])
		}
	}
}

// P4.1
func TestLeastOfFew(t *testing.T) {
	for _, l := range [][]api.Value{nil, {}, {{Kind: 9}}, odd()} {
		if v, ok := Least(l); v != (api.Value{}) || ok {
			t.Errorf("of %v: %v, %v", l, v, ok)
		}
	}
	five := api.Value{Kind: 1, N: 5}
	for _, l := range [][]api.Value{
		{five},
		{five, five},
		{five, {Kind: 1, N: 6}},
		{{Kind: 3}, {Kind: 2}, five},
		{{N: -1}, five, {Kind: 1, N: -9, S: "a"}},
		append(odd(), five),
		append([]api.Value{five}, odd()...),
	} {
		if v, ok := Least(l); v != five || !ok {
			t.Errorf("of %v: %v, %v", l, v, ok)
		}
	}
	if v, ok := Least([]api.Value{five, {}}); v != (api.Value{}) || !ok {
		t.Error("null is ahead of all:", v, ok)
	}
}

// R4: what is handed in stays as it is.
func TestLeastLeavesItsList(t *testing.T) {
	l := []api.Value{{Kind: 3}, {Kind: 9}, {Kind: 1, N: 2}, {Kind: 1, N: 1}}
	Least(l)
	for i, v := range []api.Value{{Kind: 3}, {Kind: 9}, {Kind: 1, N: 2}, {Kind: 1, N: 1}} {
		if l[i] != v {
			t.Error(i, l[i])
		}
	}
}

// printed is the print of a text, told byte by byte.
func printed(s string) string {
	out := "'"
	for i := range len(s) {
		if s[i] == '\'' {
			out += "'"
		}
		out += s[i : i+1]
	}
	return out + "'"
}

// P4.2, and P4.3: each print is read.
func TestPrintAndRead(t *testing.T) {
	marks := strings.Repeat("'", 200)
	for s, v := range map[string]api.Value{
		"null": {}, "true": {Kind: 3, N: 1}, "false": {Kind: 3},
		"0": {Kind: 1}, "7": {Kind: 1, N: 7}, "-7": {Kind: 1, N: -7}, "120": {Kind: 1, N: 120},
		"9223372036854775807":     {Kind: 1, N: most},
		"-9223372036854775808":    {Kind: 1, N: least},
		"''":                      {Kind: 2},
		"'a'":                     {Kind: 2, S: "a"},
		"' '":                     {Kind: 2, S: " "},
		"'It''s'":                 {Kind: 2, S: "It's"},
		"''''":                    {Kind: 2, S: "'"},
		"''''''":                  {Kind: 2, S: "''"},
		"'''a'''":                 {Kind: 2, S: "'a'"},
		"'a'''''":                 {Kind: 2, S: "a''"},
		"'a''''b'":                {Kind: 2, S: "a''b"},
		"'null'":                  {Kind: 2, S: "null"},
		"'true'":                  {Kind: 2, S: "true"},
		"'7'":                     {Kind: 2, S: "7"},
		"'\"\\n'":                 {Kind: 2, S: "\"\\n"},
		"'\n\x00\xff'":            {Kind: 2, S: "\n\x00\xff"},
		"'\xc3\xa4'":              {Kind: 2, S: "\xc3\xa4"},
		"'" + long + "'":          {Kind: 2, S: long},
		"'" + marks + marks + "'": {Kind: 2, S: marks},
	} {
		if p := Print(v); p != s {
			t.Errorf("%v is printed as %q", v, p)
		}
		if w, e := Read(s); w != v || e != api.OK {
			t.Errorf("%q is read as %v, error %d", s, w, e)
		}
	}
	for _, v := range rising() {
		if w, e := Read(Print(v)); w != v || e != api.OK {
			t.Errorf("%v is read back as %v, error %d", v, w, e)
		}
	}
}

// P4.2
func TestPrintOfOdd(t *testing.T) {
	for _, v := range odd() {
		if s := Print(v); s != "" {
			t.Errorf("%v is printed as %q", v, s)
		}
	}
}

// P4.2
func TestReadOfNoPrint(t *testing.T) {
	marks := strings.Repeat("'", 201)
	nines := strings.Repeat("9", 1000)
	for want, l := range map[api.Errno][]string{
		api.ErrText: {
			"", " ", "Null", "NULL", "nul", "nulll", " null", "null ", "null\x00", "nullnull",
			"True", "tru", "truee", " true", "true ", "False", "fals", "false\n", "truefalse",
			"-", "+1", "01", "007", "-0", "00", "-01", "--1", " 1", "1 ", "1a", "a", "a1", "1.0", "1e3", "0x1", "1_0",
			"0" + nines, nines + "a", "-0" + nines, "+" + nines, "\xd9\xa1", "\xff", "\x00",
			"'", "'''", "'''''", "'a", "a'", "'a''", "''a'", "'a'b'", "'a'''b'", "''a''", "'''a''", "''a'''", "'a''''", "'a' ", " 'a'",
			"'a'x", "x'a'", "\"a\"", "`a`", "'a'\n", "'a'\x00", "''null", "null''", "'a''b", "'a'1", "1'a'",
			"'" + long + "y'", "'" + long + long + "'", "'" + long + "''", "'" + long, long + "'",
			"'" + marks + "'", "'" + marks + marks + "'", strings.Repeat("'", 100001), strings.Repeat("'", 100000),
		},
		api.ErrOver: {
			"9223372036854775808", "-9223372036854775809", "10000000000000000000", "18446744073709551616", nines, "-" + nines,
		},
	} {
		for _, s := range l {
			if v, e := Read(s); v != (api.Value{}) || e != want {
				t.Errorf("%.30q is read as %.30v, error %d; asked for error %d", s, v, e, want)
			}
		}
	}
}

// texts are all texts of such bytes, up to a length.
func texts(bytes string, length int) []string {
	all, last := []string{""}, []string{""}
	for range length {
		var longer []string
		for _, s := range last {
			for i := range len(bytes) {
				longer = append(longer, s+bytes[i:i+1])
			}
		}
		all, last = append(all, longer...), longer
	}
	return all
}

// P4.2: each short text is read as the one value whose print it is, or as none.
func TestReadOfAllShortTexts(t *testing.T) {
	const bytes, length = "'a-01 \xff", 5
	prints := map[string]api.Value{}
	for _, s := range texts(bytes, length-2) {
		prints[printed(s)] = api.Value{Kind: 2, S: s}
	}
	for n := int64(-9999); n <= 99999; n++ {
		prints[strconv.FormatInt(n, 10)] = api.Value{Kind: 1, N: n}
	}
	for _, s := range texts(bytes, length) {
		want, is := prints[s]
		v, e := Read(s)
		if v != want || is != (e == api.OK) || !is && e != api.ErrText {
			t.Fatalf("%q is read as %v, error %d; asked for %v, %v", s, v, e, want, is)
		}
	}
}

// drawn is a value of any plain kind.
func drawn(r *rand.Rand) api.Value {
	switch r.Intn(8) {
	case 0:
		return Null()
	case 1:
		return Bool(r.Intn(2) == 0)
	case 2, 3, 4:
		return Int(int64(r.Uint64()) >> r.Intn(64))
	}
	l := make([]byte, r.Intn(api.MaxText+20))
	for i := range l {
		l[i] = byte(r.Intn(256))
		if r.Intn(3) == 0 {
			l[i] = '\''
		}
	}
	return Text(string(l))
}

// P4.2, P4.3
func TestPrintedIsRead(t *testing.T) {
	r := rand.New(rand.NewSource(5))
	for range 20000 {
		v := drawn(r)
		s := Print(v)
		if v.Kind == api.KText && s != printed(v.S) {
			t.Fatalf("%v is printed as %q", v, s)
		}
		if w, e := Read(s); w != v || e != api.OK {
			t.Fatalf("%v is read back as %v, error %d", v, w, e)
		}
	}
}

// P4.3: of any three the order goes on, and it is the same from both sides.
func TestOrderIsOne(t *testing.T) {
	r := rand.New(rand.NewSource(6))
	for range 20000 {
		a, b, c := drawn(r), drawn(r), drawn(r)
		if Compare(a, b) != -Compare(b, a) || (Compare(a, b) == 0) != (a == b) {
			t.Fatalf("%v with %v: %d, %d", a, b, Compare(a, b), Compare(b, a))
		}
		if Compare(a, b) <= 0 && Compare(b, c) <= 0 && Compare(a, c) > 0 {
			t.Fatalf("%v, %v, %v", a, b, c)
		}
	}
}

// P4.2
func TestNames(t *testing.T) {
	for kind, want := range map[int]string{
		1: "int", 2: "text", 3: "bool",
		0: "", 4: "", -1: "", 1<<32 + 1: "", math.MaxInt: "", math.MinInt: "",
	} {
		if name := Name(kind); name != want {
			t.Errorf("%d is named %q", kind, name)
		}
	}
	for name, want := range map[string]int{
		"int": 1, "text": 2, "bool": 3,
		"": 0, "null": 0, "Int": 0, "TEXT": 0, "bool ": 0, " int": 0, "in": 0, "integer": 0, "1": 0, "true": 0, "\x00": 0,
	} {
		if kind := Kind(name); kind != want {
			t.Errorf("%q is kind %d", name, kind)
		}
	}
}
