package schema

import (
	"math"
	"slices"
	"strconv"
	"strings"
	"testing"

	"needlebeam/api"
)

// list are columns, right or wrong, of a text such as "a:1 t:2".
func list(s string) []api.Col {
	var c []api.Col
	for _, f := range strings.Fields(s) {
		name, kind, _ := strings.Cut(f, ":")
		n, _ := strconv.Atoi(kind)
		c = append(c, api.Col{Name: name, Kind: n})
	}
	return c
}

// many are n columns of whole numbers, c0 and so on.
func many(n int) []api.Col {
	var c []api.Col
	for i := range n {
		c = append(c, api.Col{Name: "c" + strconv.Itoa(i), Kind: api.KInt})
	}
	return c
}

// schemas are some that are right, under their texts.
func schemas() map[string][]api.Col {
	return map[string][]api.Col{
		"":                          nil,
		"a int":                     list("a:1"),
		"t text":                    list("t:2"),
		"p bool":                    list("p:3"),
		"a int, t text":             list("a:1 t:2"),
		"t text, a int":             list("t:2 a:1"),
		"a text, b text":            list("a:2 b:2"),
		"p bool, a int, t text":     list("p:3 a:1 t:2"),
		"abcdefghijklmnop int":      list("abcdefghijklmnop:1"),
		"len int, str text, if int": list("len:1 str:2 if:1"),
		"a_ int, a int, a0 int":     list("a_:1 a:1 a0:1"),
		"ints int, nulls bool":      list("ints:1 nulls:3"),
		"c0 int, c1 int, c2 int, c3 int, c4 int, c5 int, c6 int, c7 int, c8 int, c9 int, c10 int, c11 int": many(12),
	}
}

// wrongNames are texts that are no column's names.
func wrongNames() []string {
	return []string{"", " ", " a", "a ", "A", "aB", "1", "1a", "_a", "a-b", "a b", "a,", "a#", "'a'", "\xff", "a\x00", "int", "text", "bool", "null", "back", "to", "limit", "abcdefghijklmnopq", "a" + strings.Repeat(" ", 3999), strings.Repeat("a", 1<<20)}
}

// wrongKinds are numbers that are no column's kinds.
func wrongKinds() []int {
	return []int{0, 4, -1, 5, 257, 1 << 32, math.MaxInt, math.MinInt}
}

// noSchemas are columns that are none.
func noSchemas() [][]api.Col {
	l := [][]api.Col{{{}}, many(13), many(14), many(1 << 17), make([]api.Col, 1<<17), append(list("a:1"), make([]api.Col, 12)...)}
	for _, s := range []string{"a:1 a:1", "a:1 a:2", "a:1 b:1 a:3", "b:2 a:1 a:1", "a:1 t:2 p:3 x:0", "a:4 b:1", "a:1 int:1", "len:1 len:1"} {
		l = append(l, list(s))
	}
	for _, name := range wrongNames() {
		l = append(l, []api.Col{{Name: name, Kind: 1}}, []api.Col{{Name: "x", Kind: 2}, {Name: name, Kind: 3}})
	}
	for _, kind := range wrongKinds() {
		l = append(l, []api.Col{{Name: "a", Kind: kind}}, []api.Col{{Name: "x", Kind: 2}, {Name: "y", Kind: kind}, {Name: "z", Kind: 1}})
	}
	for i := range 12 {
		c := many(12)
		c[i].Kind = 0
		l = append(l, c)
		c = many(12)
		c[i].Name = "c" + strconv.Itoa((i+5)%12)
		l = append(l, c)
	}
	return l
}

// reads says that a source is that of columns.
func reads(t *testing.T, src string, want []api.Col) {
	t.Helper()
	if c, f := Read(src); f != (api.Fault{}) || !slices.Equal(c, want) {
		t.Errorf("%.300q: %v, %v; asked for %v", src, c, f, want)
	}
}

// wrongly says that a source has this fault.
func wrongly(t *testing.T, src string, code api.Errno, at int) {
	t.Helper()
	if c, f := Read(src); f != (api.Fault{Code: code, At: at}) || len(c) != 0 {
		t.Errorf("%.300q: %v, %v; asked for error %d at %d", src, c, f, code, at)
	}
}

// P17.1, P17.4
func TestSchemas(t *testing.T) {
	for s, c := range schemas() {
		if !Right(c) || Print(c) != s {
			t.Errorf("%q: right %t, printed %q", s, Right(c), Print(c))
		}
		reads(t, s, c)
	}
	if !Right([]api.Col{}) || Print([]api.Col{}) != "" {
		t.Error("no columns are a schema")
	}
	long := make([]api.Col, 12)
	for i := range long {
		long[i] = api.Col{Name: "abcdefghijklmno" + string("abcdefghijkl"[i]), Kind: 2}
	}
	if !Right(long) || len(Print(long)) != 12*23-2 {
		t.Error(Print(long))
	}
	reads(t, Print(long), long)
}

// P17.1
func TestNoSchemas(t *testing.T) {
	for _, c := range noSchemas() {
		if s := Print(c); Right(c) || s != "" {
			t.Errorf("%d columns, %.300v: right %t, printed %.300q", len(c), c[:min(len(c), 13)], Right(c), s)
		}
	}
}

// P17.1: blanks and notes as lex lets them stand, or none where words stay
// apart.
func TestReadBlanks(t *testing.T) {
	for _, s := range []string{" ", "\n", "\t \n", "#", "# none", "#\n", " # a int\n\t# b", "# a int", strings.Repeat(" ", 4000), strings.Repeat("#", 4000)} {
		reads(t, s, nil)
	}
	for _, s := range []string{"a int,t text", " a int, t text ", "a\tint\t,\tt\ttext", "\na\nint\n,\nt\ntext\n", "a int , t text#", "a# int\nint#,\n, # x bool,\nt text # ,", "a      int,t      text", "# a\na int, t text", "a int, t text" + strings.Repeat(" ", 3987)} {
		reads(t, s, list("a:1 t:2"))
	}
}

// P17.1: the first word that can't stand there, or the end.
func TestReadForm(t *testing.T) {
	for s, at := range map[string]int{
		"a": 1, "a ": 2, "a # int": 7, "a int,": 6, "a int, ": 7, "a int, b": 8, "a int, b ": 9,
		"int": 0, "int a": 0, "int int": 0, " ,": 1, ", a int": 0, "a, b int": 1, "1 int": 0, "'a' int": 0, "(a int)": 0, "null int": 0, "; a int": 0, "add a int": 0,
		"a null": 2, "a b": 2, "a int int": 6, "a not": 2, "a true": 2, "a 1": 2, "a 'int'": 2, "a = int": 2, "a to": 2, "a ints": 2, "a ;": 2, "a int1": 2, "a 'text', b int": 2,
		"a int b int": 6, "a int; ": 5, "a int;": 5, "a int b": 6, "a int ','": 6, "a int ',' b int": 6, "a int = 1": 6, "a int:": 5, "a int (": 6, "a int 1": 6, "a int and b int": 6,
		"a int,, b int": 6, "a int,int": 6, "a int, 1 int": 7, "a int, b int,": 13, "a int, b int, c": 15, "a int, b int, c d": 16, "a int, b int c int": 13, "a int, b null, c int": 9, "a int, b int, null int": 14,
	} {
		wrongly(t, s, api.ErrForm, at)
		wrongly(t, "# note\n "+s, api.ErrForm, at+8)
	}
}

// P17.1: a name that comes again, where it does.
func TestReadNames(t *testing.T) {
	for s, at := range map[string]int{
		"a int, a int": 7, "a int, a text": 7, "a int, b int, a int": 14, "a int, b int, b bool": 14, "a int,b int,b int,a int": 12, "a int, a int, a int": 7, "a int, a int, b": 7, "a int, a int,": 7, "a int, a int;": 7, "a int, a int b int": 7, "a int,\n  a int": 9,
	} {
		wrongly(t, s, api.ErrName, at)
	}
	reads(t, "a int, aa int, a_a int", list("a:1 aa:1 a_a:1"))
}

// P17.1: twelve columns are not too many.
func TestReadLong(t *testing.T) {
	full := Print(many(12))
	reads(t, full, many(12))
	reads(t, full+" # , z int", many(12))
	at := len(full) + 2
	for _, behind := range []string{"z int", "z text", "z bool", "z int, y int", "z int,", "z int;", "z int y", "z int, c0 int", "z int, z int", "c12 int"} {
		wrongly(t, full+", "+behind, api.ErrLong, at)
	}
	wrongly(t, full+"  ,\n\n z int", api.ErrLong, at+4)
	var b strings.Builder
	for i := range 300 {
		b.WriteString("c" + strconv.Itoa(i) + " int,")
	}
	wrongly(t, b.String(), api.ErrLong, 10*len("c0 int,")+2*len("c10 int,"))
}

// P17.1: which of these is told of several.
func TestReadFirst(t *testing.T) {
	full := Print(many(12))
	at := len(full) + 2
	for s, f := range map[string]api.Fault{
		"c0 int":       {Code: api.ErrName, At: at},     // at one name ErrName ahead of ErrLong
		"c11 int, z":   {Code: api.ErrName, At: at},     // as it stands ahead
		"z":            {Code: api.ErrForm, At: at + 1}, // the kind's word goes ahead of the name
		"z null":       {Code: api.ErrForm, At: at + 2},
		"c0 z":         {Code: api.ErrForm, At: at + 3},
		"c0":           {Code: api.ErrForm, At: at + 2},
		"":             {Code: api.ErrForm, At: at},
		"int":          {Code: api.ErrForm, At: at},
		"z int, c0 ?":  {Code: api.ErrText, At: at + 10}, // lex's go ahead of all
		"c0 int, 01":   {Code: api.ErrText, At: at + 8},
		"z int 'x":     {Code: api.ErrText, At: at + 6},
		"z int, a = 1": {Code: api.ErrLong, At: at},
	} {
		wrongly(t, full+", "+s, f.Code, f.At)
	}
	wrongly(t, "a int, a", api.ErrForm, 8)
	wrongly(t, "a int, a null", api.ErrForm, 9)
	wrongly(t, "a int, a a", api.ErrForm, 9)
	wrongly(t, "a, a int, a int", api.ErrForm, 1)
	wrongly(t, "a int, b, a int", api.ErrForm, 8)
	wrongly(t, "a int, a int, b, c", api.ErrName, 7)
}

// P17.1: lex's faults.
func TestReadLex(t *testing.T) {
	for s, f := range map[string]api.Fault{
		"A": {Code: api.ErrText}, "a Int": {Code: api.ErrText, At: 2}, "a int, B int": {Code: api.ErrText, At: 7}, "int a ?": {Code: api.ErrText, At: 6}, "a int, a int \"": {Code: api.ErrText, At: 13},
		"a int 'b": {Code: api.ErrText, At: 6}, "a 01": {Code: api.ErrText, At: 2}, "a 9223372036854775808": {Code: api.ErrOver, At: 2}, "abcdefghijklmnopq int": {Code: api.ErrLong}, "a int, abcdefghijklmnopq int": {Code: api.ErrLong, At: 7},
		"a '" + strings.Repeat("x", 201) + "'": {Code: api.ErrLong, At: 2}, "\xff": {Code: api.ErrText}, "a int\x00": {Code: api.ErrText, At: 5}, "a int,\u00a0b int": {Code: api.ErrText, At: 6}, "_a int": {Code: api.ErrText}, "a\rint": {Code: api.ErrText, At: 1}, "a int.": {Code: api.ErrText, At: 5},
	} {
		wrongly(t, s, f.Code, f.At)
	}
	for _, s := range []string{strings.Repeat(" ", 4001), "a int, t text" + strings.Repeat(" ", 3988), strings.Repeat("?", 5000), strings.Repeat("a int, ", 1<<16)} {
		wrongly(t, s, api.ErrLong, 0)
	}
}

// turn is one of Turn's calls, with what should come of it: columns as list
// tells them, or an error.
type turn struct {
	c, take, give, want string
	e                   api.Errno
}

// held says that Turn's call does what it should.
func (x turn) held(t *testing.T) {
	t.Helper()
	d, e := Turn(list(x.c), strings.Fields(x.take), list(x.give))
	if e != x.e || !slices.Equal(d, list(x.want)) {
		t.Errorf("%v: %v, error %d", x, d, e)
	}
}

// P17.2
func TestTurn(t *testing.T) {
	for _, x := range []turn{
		{c: "a:1 t:2 p:3", want: "a:1 t:2 p:3"},
		{c: "a:1 t:2 p:3", take: "a", want: "t:2 p:3"},
		{c: "a:1 t:2 p:3", take: "t", want: "a:1 p:3"},
		{c: "a:1 t:2 p:3", take: "p", want: "a:1 t:2"},
		{c: "a:1 t:2 p:3", take: "p a", want: "t:2"},
		{c: "a:1 t:2 p:3", take: "t p a"},
		{c: "a:1 t:2 p:3", take: "a t p", give: "p:3 a:1", want: "p:3 a:1"},
		{c: "a:1 t:2 p:3", give: "x:1", want: "a:1 t:2 p:3 x:1"},
		{c: "a:1 t:2 p:3", give: "y:2 x:1", want: "a:1 t:2 p:3 y:2 x:1"},
		{c: "a:1 t:2 p:3", take: "t", give: "x:1 t:1", want: "a:1 p:3 x:1 t:1"},
		{c: "a:1 t:2 p:3", take: "a", give: "a:1", want: "t:2 p:3 a:1"},
		{c: "a:1 t:2 p:3", take: "a", give: "len:3", want: "t:2 p:3 len:3"},
		{},
		{give: "a:1", want: "a:1"},
		{c: "a:1", take: "a"},
		{c: "a:1 b:1 c:1 d:1", take: "b d", give: "x:3", want: "a:1 c:1 x:3"},
	} {
		x.held(t)
	}
	if d, e := Turn([]api.Col{}, []string{}, []api.Col{}); len(d) != 0 || e != api.OK {
		t.Error(d, e)
	}
}

// P17.2: at most twelve come out, however many come and go.
func TestTurnLimits(t *testing.T) {
	names := make([]string, 12)
	for i := range names {
		names[i] = many(12)[i].Name
	}
	for n := range 13 {
		for more := range 15 {
			give := make([]api.Col, more)
			for i := range give {
				give[i] = api.Col{Name: "d" + strconv.Itoa(i), Kind: 3}
			}
			d, e := Turn(many(12), names[:n], give)
			if 12-n+more > 12 {
				if e != api.ErrLong || len(d) != 0 {
					t.Errorf("%d go, %d come: %v, error %d", n, more, d, e)
				}
				continue
			}
			if e != api.OK || !slices.Equal(d, slices.Concat(many(12)[n:], give)) {
				t.Errorf("%d go, %d come: %v, error %d", n, more, d, e)
			}
		}
	}
}

// P17.2: what is wrong, and which of several.
func TestTurnErrors(t *testing.T) {
	for _, x := range []turn{
		{c: "a:1 t:2", take: "z", e: api.ErrName},
		{c: "a:1 t:2", take: "a z", e: api.ErrName},
		{c: "a:1 t:2", take: "z a", e: api.ErrName},
		{c: "a:1 t:2", take: "a a", e: api.ErrName},
		{c: "a:1 t:2", take: "a t a", e: api.ErrName},
		{c: "a:1 t:2", take: "x", give: "x:1", e: api.ErrName},
		{c: "a:1 t:2", take: "int", e: api.ErrName},
		{take: "a", e: api.ErrName},
		{c: "a:1 t:2", give: "a:1", e: api.ErrName},
		{c: "a:1 t:2", give: "t:1", e: api.ErrName},
		{c: "a:1 t:2", take: "a", give: "t:2", e: api.ErrName},
		{c: "a:1 t:2", give: "x:1 x:1", e: api.ErrName},
		{c: "a:1 t:2", give: "x:1 y:1 x:2", e: api.ErrName},
		{c: "a:1 t:2", take: "a", give: "a:1 a:2", e: api.ErrName},
		{c: "a:1 t:2", give: "x:0", e: api.ErrType},
		{c: "a:1 t:2", give: "x:1 y:4 z:1", e: api.ErrType},
		{c: "a:1 t:2", take: "a t", give: "x:-1", e: api.ErrType},
		{c: "a:1 t:2", give: "x:0 x:1", e: api.ErrName}, // names go ahead of kinds, wherever they stand
		{c: "a:1 t:2", give: "x:0 a:1", e: api.ErrName},
		{c: "a:1 t:2", give: "x:0 int:1", e: api.ErrName},
		{c: "a:1 t:2", take: "z", give: "x:0", e: api.ErrName},
		{c: "a:1 a:1", take: "z", give: "x:0", e: api.ErrArg}, // and c ahead of all
		{c: "a:1 a:1", take: "a", e: api.ErrArg},
		{c: "a:0", take: "a", e: api.ErrArg},
		{c: "int:1", take: "int", e: api.ErrArg},
	} {
		x.held(t)
	}
	for _, name := range wrongNames() {
		if d, e := Turn(list("a:1 t:2"), []string{name}, nil); len(d) != 0 || e != api.ErrName {
			t.Errorf("%.100q goes: %v, error %d", name, d, e)
		}
		if d, e := Turn(list("a:1 t:2"), nil, []api.Col{{Name: name, Kind: 1}}); len(d) != 0 || e != api.ErrName {
			t.Errorf("%.100q comes: %v, error %d", name, d, e)
		}
	}
	for _, kind := range wrongKinds() {
		if d, e := Turn(list("a:1 t:2"), []string{"t"}, []api.Col{{Name: "t", Kind: kind}}); len(d) != 0 || e != api.ErrType {
			t.Errorf("kind %d: %v, error %d", kind, d, e)
		}
	}
	for _, c := range noSchemas() {
		if d, e := Turn(c, []string{"a"}, []api.Col{{Name: "int"}}); len(d) != 0 || e != api.ErrArg {
			t.Errorf("%.300v: %d columns, error %d", c, len(d), e)
		}
	}
}

// P17.2: too many columns are told behind what is wrong with names and kinds.
func TestTurnMany(t *testing.T) {
	long := many(1 << 17)
	if d, e := Turn(nil, nil, long); len(d) != 0 || e != api.ErrLong {
		t.Error(len(d), e)
	}
	long[1<<16].Kind = 0
	if d, e := Turn(nil, nil, long); len(d) != 0 || e != api.ErrType {
		t.Error(len(d), e)
	}
	long[1<<17-1].Name = "c7"
	if d, e := Turn(nil, nil, long); len(d) != 0 || e != api.ErrName {
		t.Error(len(d), e)
	}
	if d, e := Turn(nil, make([]string, 1<<17), many(1<<17)); len(d) != 0 || e != api.ErrName {
		t.Error(len(d), e)
	}
	if d, e := Turn(many(12), nil, make([]api.Col, 1)); len(d) != 0 || e != api.ErrName {
		t.Error(d, e)
	}
	if d, e := Turn(many(12), nil, list("x:7")); len(d) != 0 || e != api.ErrType {
		t.Error(d, e)
	}
	if d, e := Turn(many(12), []string{"c3", "c3"}, list("x:1 y:1")); len(d) != 0 || e != api.ErrName {
		t.Error(d, e)
	}
}

// P17.3
func TestSame(t *testing.T) {
	lists := []string{"", "a:1", "a:2", "b:1", "a:1 t:2", "t:2 a:1", "a:1 t:2 p:3", "a:1 t:3", ":0", ":0 :0", "a:1 a:1", "a:7"}
	for i, a := range lists {
		for j, b := range lists {
			if Same(list(a), list(b)) != (i == j) {
				t.Errorf("%q, %q: the same: %t", a, b, i != j)
			}
		}
	}
	if !Same(nil, []api.Col{}) || !Same([]api.Col{}, nil) || !Same(many(1<<17), many(1<<17)) || Same(many(1<<17), many(1<<17-1)) {
		t.Error("not the same")
	}
}

// P17.3: lists that are no schemas, too.
func TestDiffer(t *testing.T) {
	for _, x := range [][4]string{
		{"", "", "", ""},
		{"a:1", "", "a:1", ""},
		{"", "a:1", "", "a:1"},
		{"a:1 t:2", "t:2 a:1", "", ""},
		{"a:1", "a:2", "a:1", "a:2"},
		{"a:1 t:2 p:3", "a:1 p:3 x:1 t:1", "t:2", "x:1 t:1"},
		{"c:1 b:1 a:1", "x:1 b:1 y:1", "c:1 a:1", "x:1 y:1"},
		{"a:1 b:2 c:3", "c:1 a:2 b:3", "a:1 b:2 c:3", "c:1 a:2 b:3"},
		{"a:1 a:1 b:1", "b:1 b:1 c:1", "a:1 a:1", "c:1"},
		{"a:1", "a:1 a:1 a:2", "", "a:2"},
		{":0 int:9", ":0 x:1", "int:9", "x:1"},
	} {
		gone, come := Differ(list(x[0]), list(x[1]))
		if !slices.Equal(gone, list(x[2])) || !slices.Equal(come, list(x[3])) {
			t.Errorf("%q: %v, %v", x, gone, come)
		}
	}
	gone, come := Differ(many(1<<17), many(1 << 17)[1:])
	if !slices.Equal(gone, list("c0:1")) || len(come) != 0 {
		t.Error(len(gone), len(come))
	}
}

// P17.3: by names alone.
func TestOrder(t *testing.T) {
	for _, x := range []struct {
		a, b string
		want []int
	}{
		{"", "", nil},
		{"", "a:1", nil},
		{"a:1", "", []int{-1}},
		{"a:1 t:2 p:3", "a:1 p:3 x:1 t:1", []int{0, 3, 1}},
		{"a:1 b:1 c:1", "c:1 a:1 b:1", []int{1, 2, 0}},
		{"a:1 b:1 c:1", "a:1 b:1 c:1", []int{0, 1, 2}},
		{"a:1 z:1 b:1 y:1", "b:2", []int{-1, -1, 0, -1}},
		{"a:1", "b:1 a:2 a:1", []int{1}},
		{"a:1 a:2 a:1", "b:1 a:9 a:1", []int{1, 1, 1}},
		{":0 a:1", "a:0 :7 :0", []int{1, 0}},
	} {
		if l := Order(list(x.a), list(x.b)); !slices.Equal(l, x.want) {
			t.Errorf("%q in %q: %v", x.a, x.b, l)
		}
	}
	l := Order(many(1<<17), many(1 << 17)[1:])
	for i, at := range l {
		if at != i-1 {
			t.Fatal(i, at)
		}
	}
}
