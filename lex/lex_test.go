package lex

import (
	"math/rand"
	"regexp"
	"slices"
	"strings"
	"testing"

	"needlebeam/api"
)

// reserved are all reserved words.
func reserved() []string {
	return strings.Fields("add drop rename split merge retype into to back and or not true false null int text bool select where from limit")
}

// marks are all marks, those of two bytes ahead.
func marks() []string {
	return strings.Fields("<= >= != ( ) , ; = < > + - * / % & :")
}

// reader takes words off a source as the chapter says them, one expression for
// each kind.
type reader struct {
	gap, name, number, text *regexp.Regexp
}

func newReader() reader {
	return reader{
		gap:    regexp.MustCompile(`^([ \t\n]|#[^\n]*(\n|$))*`),
		name:   regexp.MustCompile(`^[a-z][a-z0-9_]*`),
		number: regexp.MustCompile(`^[0-9]+`),
		text:   regexp.MustCompile(`^'([^']|'')*'`),
	}
}

// one is the kind of the word at the front of s, its text, and its bytes in s;
// or an error.
func (r reader) one(s string) (int, string, string, api.Errno) {
	if m := r.name.FindString(s); m != "" {
		if len(m) > 16 {
			return 0, "", "", api.ErrLong
		}
		if slices.Contains(reserved(), m) {
			return api.TokWord, m, m, api.OK
		}
		return api.TokName, m, m, api.OK
	}
	if m := r.number.FindString(s); m != "" {
		if m[0] == '0' && len(m) > 1 {
			return 0, "", "", api.ErrText
		}
		if len(m) > 19 || len(m) == 19 && m > "9223372036854775807" {
			return 0, "", "", api.ErrOver
		}
		return api.TokNum, m, m, api.OK
	}
	if m := r.text.FindString(s); m != "" && !strings.HasPrefix(s[len(m):], "'") {
		text := strings.ReplaceAll(m[1:len(m)-1], "''", "'")
		if len(text) > 200 {
			return 0, "", "", api.ErrLong
		}
		return api.TokText, text, m, api.OK
	}
	for _, m := range marks() {
		if strings.HasPrefix(s, m) {
			return api.TokMark, m, m, api.OK
		}
	}
	return 0, "", "", api.ErrText
}

// all is what Lex should tell of a source.
func (r reader) all(src string) ([]api.Tok, api.Fault) {
	if len(src) > 4000 {
		return nil, api.Fault{Code: api.ErrLong}
	}
	var l []api.Tok
	at := 0
	for {
		at += len(r.gap.FindString(src[at:]))
		if at == len(src) {
			return append(l, api.Tok{At: at}), api.Fault{}
		}
		kind, text, in, e := r.one(src[at:])
		if e != api.OK {
			return nil, api.Fault{Code: e, At: at}
		}
		l = append(l, api.Tok{Kind: kind, Text: text, At: at})
		at += len(in)
	}
}

// tells says that Lex, Words and Name tell of a source what they should.
func tells(t *testing.T, r reader, src string) {
	t.Helper()
	want, fault := r.all(src)
	l, f := Lex(src)
	if f != fault || !slices.Equal(l, want) {
		t.Fatalf("%.300q: %v, %v; asked for %v, %v", src, l, f, want, fault)
	}
	var texts []string
	for _, w := range want {
		texts = append(texts, w.Text)
	}
	texts = texts[:max(0, len(texts)-1)]
	if w, e := Words(src); e != fault.Code || !slices.Equal(w, texts) {
		t.Fatalf("%.300q: words %q, error %d; asked for %q, %d", src, w, e, texts, fault.Code)
	}
	name := len(want) == 2 && want[0] == api.Tok{Kind: api.TokName, Text: src}
	if Name(src) != name {
		t.Fatalf("%.300q: a name: %t", src, !name)
	}
}

// is says that a source has these words, and the end.
func is(t *testing.T, src string, want ...api.Tok) {
	t.Helper()
	l, f := Lex(src)
	if f != (api.Fault{}) || !slices.Equal(l, append(want, api.Tok{Kind: 0, At: len(src)})) {
		t.Errorf("%.300q: %v, %v", src, l, f)
	}
}

// wrong says that a source has this fault.
func wrong(t *testing.T, src string, code api.Errno, at int) {
	t.Helper()
	l, f := Lex(src)
	if f != (api.Fault{Code: code, At: at}) || len(l) != 0 {
		t.Errorf("%.300q: %v, %v; asked for error %d at %d", src, l, f, code, at)
	}
	w, e := Words(src)
	if e != code || len(w) != 0 {
		t.Errorf("%.300q: words %q, error %d; asked for %d", src, w, e, code)
	}
	if Name(src) {
		t.Errorf("%.300q: a name", src)
	}
}

// P12.1: words of all kinds, and their places.
func TestWordsOfAllKinds(t *testing.T) {
	is(t, "a<=b", api.Tok{Kind: 1, Text: "a"}, api.Tok{Kind: 5, Text: "<=", At: 1}, api.Tok{Kind: 1, Text: "b", At: 3})
	is(t, "split x_2 into b int=a%10;",
		api.Tok{Kind: 2, Text: "split"}, api.Tok{Kind: 1, Text: "x_2", At: 6}, api.Tok{Kind: 2, Text: "into", At: 10},
		api.Tok{Kind: 1, Text: "b", At: 15}, api.Tok{Kind: 2, Text: "int", At: 17}, api.Tok{Kind: 5, Text: "=", At: 20},
		api.Tok{Kind: 1, Text: "a", At: 21}, api.Tok{Kind: 5, Text: "%", At: 22}, api.Tok{Kind: 3, Text: "10", At: 23}, api.Tok{Kind: 5, Text: ";", At: 25})
	is(t, "'It''s'&'#a'", api.Tok{Kind: 4, Text: "It's"}, api.Tok{Kind: 5, Text: "&", At: 7}, api.Tok{Kind: 4, Text: "#a", At: 8})
	is(t, "1a2b", api.Tok{Kind: 3, Text: "1"}, api.Tok{Kind: 1, Text: "a2b", At: 1})
	is(t, "to1", api.Tok{Kind: 1, Text: "to1"})
	is(t, "1to", api.Tok{Kind: 3, Text: "1"}, api.Tok{Kind: 2, Text: "to", At: 1})
	is(t, "-1", api.Tok{Kind: 5, Text: "-"}, api.Tok{Kind: 3, Text: "1", At: 1})
}

// P12.1: the end stands at the source's length, whatever there is ahead of it.
func TestEnd(t *testing.T) {
	is(t, "")
	for _, s := range []string{" ", "\t", "\n", " \t\n \n", "#", "# a 'b A ?", "#\n", "# a\n# b", "##\n#\n", " # 'a\n\t"} {
		is(t, s)
		is(t, "a "+s, api.Tok{Kind: 1, Text: "a"})
	}
	if w, e := Words("# nothing"); len(w) != 0 || e != api.OK {
		t.Error(w, e)
	}
}

// P12.1: a name goes on as far as it can; MaxName bytes are not too many.
func TestNames(t *testing.T) {
	for _, s := range []string{"a", "z", "len", "a0", "a9", "a_", "a___", "z_9a", "abcdefghijklmno", "abcdefghijklmnop", "a123456789012345", "a_______________", "add_", "adds", "ad", "nulls", "null0", "selectwherefromx"} {
		is(t, s, api.Tok{Kind: 1, Text: s})
		is(t, "# \n"+s+"=", api.Tok{Kind: 1, Text: s, At: 3}, api.Tok{Kind: 5, Text: "=", At: 3 + len(s)})
		if !Name(s) || Reserved(s) {
			t.Error(s)
		}
	}
	for _, s := range []string{"abcdefghijklmnopq", "a1234567890123456", "a________________", "selectwherefromin", strings.Repeat("x", 4000)} {
		wrong(t, s, api.ErrLong, 0)
	}
	wrong(t, "a + abcdefghijklmnopq + ?", api.ErrLong, 4)
	wrong(t, "abcdefghijklmnopqA", api.ErrLong, 0)
	wrong(t, "abcdefghijklmnopA", api.ErrText, 16)
	is(t, "abcdefghijklmnop abcdefghijklmnop", api.Tok{Kind: 1, Text: "abcdefghijklmnop"}, api.Tok{Kind: 1, Text: "abcdefghijklmnop", At: 17})
}

// P12.2: one name, and nothing else beside it.
func TestName(t *testing.T) {
	for _, s := range []string{"", " ", " a", "a ", "a\n", "a#", "#a", "\na", "a b", "a-b", "a,", "1", "1a", "_", "_a", "A", "aB", "Abc", "'a'", "a'", "?", "=", "a\x00", "\x00a", "\xc3\xa4", "a\xc3\xa4", "a\xff", "abcdefghijklmnopq", strings.Repeat("a", 4001), "a" + strings.Repeat(" ", 3999), strings.Repeat("a", 1<<20)} {
		if Name(s) {
			t.Errorf("a name: %.100q", s)
		}
	}
	for _, s := range reserved() {
		if Name(s) {
			t.Error("a name:", s)
		}
	}
}

// P12.2
func TestReserved(t *testing.T) {
	if len(reserved()) != 22 {
		t.Fatal(len(reserved()))
	}
	for _, s := range reserved() {
		if !Reserved(s) {
			t.Error("not reserved:", s)
		}
		is(t, s, api.Tok{Kind: 2, Text: s})
		is(t, "("+s+")", api.Tok{Kind: 5, Text: "("}, api.Tok{Kind: 2, Text: s, At: 1}, api.Tok{Kind: 5, Text: ")", At: 1 + len(s)})
		for _, other := range []string{s + " ", " " + s, s + "\n", s + "s", "x" + s, s + "_", s + "1", s[1:], s[:len(s)-1], strings.ToUpper(s), strings.ToUpper(s[:1]) + s[1:], "'" + s + "'", s + "\x00", s + ";", s + s} {
			if Reserved(other) != slices.Contains(reserved(), other) {
				t.Errorf("reserved: %q", other)
			}
		}
	}
	for _, s := range []string{"", " ", "add drop", "a", "len", "str", "num", "isnull", "nvl", "left", "right", "if", "old", "new", "with", "as", "=", "1", "\xff", strings.Repeat("add", 1<<20)} {
		if Reserved(s) {
			t.Errorf("reserved: %.100q", s)
		}
	}
}

// P12.1: all digits that stand in a row are one number, which is at most the
// greatest of 64 bits with a sign.
func TestNumbers(t *testing.T) {
	for _, s := range []string{"0", "1", "9", "10", "100", "1234567890", "999999999999999999", "1000000000000000000", "9223372036854775806", "9223372036854775807"} {
		is(t, s, api.Tok{Kind: 3, Text: s})
		is(t, "a="+s+"b", api.Tok{Kind: 1, Text: "a"}, api.Tok{Kind: 5, Text: "=", At: 1}, api.Tok{Kind: 3, Text: s, At: 2}, api.Tok{Kind: 1, Text: "b", At: 2 + len(s)})
	}
	for _, s := range []string{"9223372036854775808", "9223372036854775810", "9300000000000000000", "10000000000000000000", "18446744073709551615", "18446744073709551616", "18446744073709551617", "36893488147419103233", strings.Repeat("1", 4000)} {
		wrong(t, s, api.ErrOver, 0)
	}
	wrong(t, "a -9223372036854775808", api.ErrOver, 3)
	for _, s := range []string{"00", "01", "007", "0123456789", "09223372036854775808", "000000000000000000000", strings.Repeat("0", 4000), "0" + strings.Repeat("9", 3999)} {
		wrong(t, s, api.ErrText, 0)
	}
	wrong(t, "7 + 012 ?", api.ErrText, 4)
	is(t, "0 0", api.Tok{Kind: 3, Text: "0"}, api.Tok{Kind: 3, Text: "0", At: 2})
	is(t, "0#\n0", api.Tok{Kind: 3, Text: "0"}, api.Tok{Kind: 3, Text: "0", At: 3})
}

// P12.1: a text may have bytes of any kind; a mark in it stands there twice.
func TestTexts(t *testing.T) {
	all := ""
	for c := range 128 {
		all += string([]byte{byte(c)})
	}
	for _, s := range []string{"", "a", " ", "'", "''", "'''", "a'", "'a", "'a'", "It's", "#", "# a\nb", "\n", "\t", "\x00", "\xff\x80", "\xc3\xa4", "add", "12", "<=", "?", all} {
		in := "'" + strings.ReplaceAll(s, "'", "''") + "'"
		is(t, in, api.Tok{Kind: 4, Text: s})
		is(t, in+" "+in, api.Tok{Kind: 4, Text: s}, api.Tok{Kind: 4, Text: s, At: len(in) + 1})
		is(t, "7"+in+"a", api.Tok{Kind: 3, Text: "7"}, api.Tok{Kind: 4, Text: s, At: 1}, api.Tok{Kind: 1, Text: "a", At: 1 + len(in)})
		if w, e := Words(in); e != api.OK || !slices.Equal(w, []string{s}) {
			t.Errorf("%q: %q, %d", in, w, e)
		}
	}
	is(t, "'a''b'", api.Tok{Kind: 4, Text: "a'b"})
	is(t, "'a' 'b'", api.Tok{Kind: 4, Text: "a"}, api.Tok{Kind: 4, Text: "b", At: 4})
}

// P12.1: a text that ends nowhere is wrong at its first mark, however long it is.
func TestTextsWithoutEnd(t *testing.T) {
	for _, s := range []string{"'", "'''", "'''''", "'a", "'a''", "'a''b", "'a\n", "'a # ", "' '' ", "'" + strings.Repeat("x", 201), "'" + strings.Repeat("''", 1999), "'" + strings.Repeat("x", 3999)} {
		wrong(t, s, api.ErrText, 0)
		wrong(t, " \n"+s[:min(len(s), 3901)], api.ErrText, 2)
	}
	wrong(t, "'a' '", api.ErrText, 4)
	wrong(t, "'a' '''", api.ErrText, 4)
}

// P12.1: of a text its own bytes are counted, not the marks.
func TestLongTexts(t *testing.T) {
	for _, n := range []int{1, 199, 200} {
		for _, s := range []string{"x", "\x00", "\xff"} {
			is(t, "'"+strings.Repeat(s, n)+"'", api.Tok{Kind: 4, Text: strings.Repeat(s, n)})
		}
		is(t, "'"+strings.Repeat("''", n)+"'", api.Tok{Kind: 4, Text: strings.Repeat("'", n)})
	}
	for _, n := range []int{201, 202, 400, 1999} {
		wrong(t, "'"+strings.Repeat("x", n)+"'", api.ErrLong, 0)
		wrong(t, "'"+strings.Repeat("''", n)+"'", api.ErrLong, 0)
	}
	half := strings.Repeat("\xc3\xa4", 100) // 200 bytes
	is(t, "'"+half+"'", api.Tok{Kind: 4, Text: half})
	wrong(t, "'"+half+"x'", api.ErrLong, 0)
	wrong(t, "a = '"+half+"''' ?", api.ErrLong, 4)
	is(t, "'"+half+"' '"+half+"'", api.Tok{Kind: 4, Text: half}, api.Tok{Kind: 4, Text: half, At: 203})
}

// P12.1: marks of two bytes go ahead of those of one.
func TestMarks(t *testing.T) {
	for _, s := range marks() {
		is(t, s, api.Tok{Kind: 5, Text: s})
		for _, other := range []string{"a", "1", "''", "to"} {
			if w, e := Words(other + s + other); e != api.OK || len(w) != 3 || w[1] != s {
				t.Errorf("%q: %q, %d", other+s+other, w, e)
			}
		}
	}
	for s, want := range map[string]string{
		"<==": "<= =", "==": "= =", "=<": "= <", "=>": "= >", "<>": "< >", "><": "> <", "<<=": "< <=", ">>=": "> >=",
		"!==": "!= =", "!=!=": "!= !=", "< =": "< =", "> =": "> =", "<#\n=": "< =", "()": "( )", "&&": "& &", "::": ": :", ":=": ": =", "--": "- -", "<=>=!=": "<= >= !=",
	} {
		if w, e := Words(s); e != api.OK || strings.Join(w, " ") != want {
			t.Errorf("%q: %q, %d", s, w, e)
		}
	}
}

// P12.1: bytes that begin no word, behind others, too.
func TestWrongBytes(t *testing.T) {
	good := " \t\n#'(),;=<>+-*/%&:abcdefghijklmnopqrstuvwxyz0123456789"
	for c := range 256 {
		s := string([]byte{byte(c)})
		if strings.Contains(good, s) {
			continue
		}
		wrong(t, s, api.ErrText, 0)
		wrong(t, "a = 1 "+s, api.ErrText, 6)
		wrong(t, "a# b\n"+s+" a", api.ErrText, 5)
		is(t, "a# "+s, api.Tok{Kind: 1, Text: "a"})
		is(t, "'"+s+"'", api.Tok{Kind: 4, Text: s})
		if s != "_" {
			wrong(t, "a"+s, api.ErrText, 1)
		}
	}
	for s, at := range map[string]int{"!": 0, "a!": 1, "! =": 0, "=!": 1, "!<": 0, "!!=": 0, "<!": 1, "a not !b": 6, "a\r\n": 1, "a\vb": 1, "a\u00a0b": 1, "\ufeffa": 0, "_a": 0, "1_": 1, "[a]": 0, "a.b": 1, "\"a\"": 0, "`": 0, "{": 0, "|": 0, "~": 0, "^": 0, "$a": 0, "@": 0, "\\": 0} {
		wrong(t, s, api.ErrText, at)
	}
}

// P12.1: of several faults the first from the left is told.
func TestFirstFault(t *testing.T) {
	long := strings.Repeat("x", 17)
	faults := []struct {
		s    string
		code api.Errno
	}{
		{"?", api.ErrText}, {"01", api.ErrText}, {"9223372036854775808", api.ErrOver}, {long, api.ErrLong},
		{"'" + strings.Repeat("y", 201) + "'", api.ErrLong}, {"!", api.ErrText}, {"'z", api.ErrText},
	}
	for _, a := range faults {
		for _, b := range faults {
			if a.s != "'z" { // or what stands behind is in the text
				wrong(t, "a "+a.s+" b "+b.s, a.code, 2)
			}
		}
	}
}

// P12.1: a source that is too long is that, whatever stands in it.
func TestLongSources(t *testing.T) {
	for _, s := range []string{" ", "\n", "a ", "?", "'", "0", "1", "a", "#", "''", "\xff", "# a\n"} {
		tells(t, newReader(), strings.Repeat(s, 4000)[:3999])
		tells(t, newReader(), strings.Repeat(s, 4000)[:4000])
		for _, n := range []int{4001, 4002, 8000} {
			wrong(t, strings.Repeat(s, 8000)[:n], api.ErrLong, 0)
		}
	}
	wrong(t, strings.Repeat("a b", 1<<20), api.ErrLong, 0)
	is(t, strings.Repeat(" ", 4000))
	is(t, strings.Repeat(" ", 3999)+"a", api.Tok{Kind: 1, Text: "a", At: 3999})
	wrong(t, strings.Repeat(" ", 3999)+"A", api.ErrText, 3999)
	wrong(t, strings.Repeat(" ", 4000)+"A", api.ErrLong, 0)
	if l, f := Lex(strings.Repeat("(", 4000)); f != (api.Fault{}) || len(l) != 4001 {
		t.Error(len(l), f)
	}
}

// P12.1: all sources of two bytes.
func TestTwoBytes(t *testing.T) {
	r := newReader()
	for a := range 256 {
		tells(t, r, string([]byte{byte(a)}))
		for b := range 256 {
			tells(t, r, string([]byte{byte(a), byte(b)}))
		}
	}
}

// P12.1, P12.2: all sources of up to five bytes of some that go together.
func TestShortSources(t *testing.T) {
	r := newReader()
	l := []string{""}
	for range 5 {
		var longer []string
		for _, s := range l {
			for _, c := range "a0' #\n<=!" {
				longer = append(longer, s+string(c))
			}
		}
		for _, s := range longer {
			tells(t, r, s)
		}
		l = longer
	}
}

// pieces are what sources by chance are made of.
func pieces() []string {
	l := append(reserved(), marks()...)
	return append(l, "a", "b_1", "x9", "abcdefghijklmnop", "0", "7", "42", "9223372036854775807", "''", "'It''s'", "'#'", "'\n'", " ", "\t", "\n", "# note\n", "#\n", " ", "\n\n")
}

// P12.1, P12.2: sources by chance, some of them with a byte that is another one.
func TestChance(t *testing.T) {
	draw := rand.New(rand.NewSource(12))
	r := newReader()
	l := pieces()
	good := 0
	for range 20000 {
		s := ""
		for range draw.Intn(20) {
			s += l[draw.Intn(len(l))]
			if draw.Intn(2) == 0 {
				s += " "
			}
		}
		if s != "" && draw.Intn(3) == 0 {
			b := []byte(s)
			b[draw.Intn(len(b))] = byte(draw.Intn(256))
			s = string(b)
		}
		tells(t, r, s)
		if _, f := Lex(s); f.Code == api.OK {
			good++
		}
	}
	if good < 5000 || good > 19000 {
		t.Errorf("%d good ones of 20000", good)
	}
}

// R1: bytes by chance.
func TestAnyBytes(t *testing.T) {
	draw := rand.New(rand.NewSource(13))
	r := newReader()
	for range 5000 {
		b := make([]byte, draw.Intn(60))
		for i := range b {
			b[i] = byte(draw.Intn(256))
		}
		tells(t, r, string(b))
	}
}

// P12.3: whatever stands between words, they are the same, at other places.
func TestBetween(t *testing.T) {
	words := []string{"split", "a", "into", "b", "int", "=", "a", "/", "10", ",", "c", "text", "=", "'It''s # a'", "&", "'x'", "back", "not", "-", "7", "<=", "<", "=", "'y'", ";"}
	kinds := []int{2, 1, 2, 1, 2, 5, 1, 5, 3, 5, 1, 2, 5, 4, 5, 4, 2, 2, 5, 3, 5, 5, 5, 4, 5}
	gaps := []string{" ", "\t", "\n", "  ", "\n\t ", "#\n", " # add 'a ?\n", "# a\n# b\n ", "##'\n"}
	draw := rand.New(rand.NewSource(3))
	for range 500 {
		src := gaps[draw.Intn(len(gaps))]
		var want []api.Tok
		for i, w := range words {
			text := strings.ReplaceAll(strings.Trim(w, "'"), "''", "'")
			want = append(want, api.Tok{Kind: kinds[i], Text: text, At: len(src)})
			src += w
			for range 1 + draw.Intn(3) {
				src += gaps[draw.Intn(len(gaps))]
			}
		}
		is(t, src, want...)
		is(t, src+"# the end", want...)
	}
}

// What needs nothing between it may have it, and the words are the same.
func TestNothingBetween(t *testing.T) {
	close, _ := Words("add a int=b+2*(c-'x')/len(d)%3;#e")
	apart, e := Words(" add\na int = b + 2 * ( c - 'x' ) / len ( d ) % 3 ; # e")
	if e != api.OK || !slices.Equal(close, apart) || len(close) != 21 {
		t.Errorf("%q, %q, %d", close, apart, e)
	}
}

// R4, R6: what is told is the caller's, and each call tells the same.
func TestApart(t *testing.T) {
	src := "add a text = 'it''s' & str(7); # note"
	first, _ := Lex(src)
	words, _ := Words(src)
	kept, texts := slices.Clone(first), slices.Clone(words)
	clear(first)
	clear(words)
	_ = append(first[:0], make([]api.Tok, 100)...)
	if l, f := Lex(src); f.Code != api.OK || !slices.Equal(l, kept) {
		t.Error(l, f)
	}
	if w, e := Words(src); e != api.OK || !slices.Equal(w, texts) {
		t.Error(w, e)
	}
}
