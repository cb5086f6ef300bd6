package mig

import (
	"math"
	"slices"
	"strconv"
	"strings"
	"testing"

	"needlebeam/api"
	"needlebeam/expr"
	"needlebeam/lex"
)

// tree is that of an expression.
func tree(src string) api.Expr {
	x, f := expr.Parse(src)
	if f.Code != api.OK {
		panic(src)
	}
	return x
}

// trees are those of expressions.
func trees(srcs ...string) []api.Expr {
	var l []api.Expr
	for _, s := range srcs {
		l = append(l, tree(s))
	}
	return l
}

// cols are columns of a text such as "a:1 t:2"; of a name alone of kind 0.
func cols(s string) []api.Col {
	var c []api.Col
	for _, f := range strings.Fields(s) {
		name, kind, _ := strings.Cut(f, ":")
		n, _ := strconv.Atoi(kind)
		c = append(c, api.Col{Name: name, Kind: n})
	}
	return c
}

// move is one of a kind: what goes, what comes, and trees for both.
func move(kind int, take, give string, ahead, back []api.Expr) api.Move {
	return api.Move{Kind: kind, Take: strings.Fields(take), Give: cols(give), Ahead: ahead, Back: back}
}

// rightMoves are some, under their texts.
func rightMoves() map[string]api.Move {
	return map[string]api.Move{
		"add x int = a + 1;\n":                                           move(1, "", "x:1", trees("a + 1"), nil),
		"add t text = 'back; , into';\n":                                 move(1, "", "t:2", trees("'back; , into'"), nil),
		"add abcdefghijklmnop bool = a = b;\n":                           move(1, "", "abcdefghijklmnop:3", trees("a = b"), nil),
		"add len int = len(len);\n":                                      move(1, "", "len:1", trees("len(len)"), nil),
		"add x int = null;\n":                                            move(1, "", "x:1", trees("null"), nil),
		"drop t back 'none';\n":                                          move(2, "t", "", nil, trees("'none'")),
		"drop t back not (a or b);\n":                                    move(2, "t", "", nil, trees("not (a or b)")),
		"rename a to b;\n":                                               move(3, "a", "b", trees("a"), trees("b")),
		"rename a to a;\n":                                               move(3, "a", "a", trees("a"), trees("a")),
		"rename if to abcdefghijklmnop;\n":                               move(3, "if", "abcdefghijklmnop", trees("if"), trees("abcdefghijklmnop")),
		"retype e text = str(e) back num(e);\n":                          move(6, "e", "e:2", trees("str(e)"), trees("num(e)")),
		"retype e bool = x back y;\n":                                    move(6, "e", "e:3", trees("x"), trees("y")),
		"split a into b int = a / 10, c int = a % 10 back b * 10 + c;\n": move(4, "a", "b:1 c:1", trees("a / 10", "a % 10"), trees("b * 10 + c")),
		"split a into a int = 1, a int = 1 back a;\n":                    move(4, "a", "a:1 a:1", trees("1", "1"), trees("a")), // names are no text's affair
		"split t into p bool = nvl(t, 'x') = t, q text = t & 'It''s', r int = if(p, 1, 2) back left(q, 3);\n": move(4, "t", "p:3 q:2 r:1",
			trees("nvl(t, 'x') = t", "t & 'It''s'", "if(p, 1, 2)"), trees("left(q, 3)")),
		"merge c, d into e int = c * 10 + d back e / 10, e % 10;\n":                   move(5, "c d", "e:1", trees("c * 10 + d"), trees("e / 10", "e % 10")),
		"merge a, a into a text = a back a, a;\n":                                     move(5, "a a", "a:2", trees("a"), trees("a", "a")),
		"merge a, b, c, d into e bool = a back -1, if(a, b, c), true, (1 + 2) * 3;\n": move(5, "a b c d", "e:3", trees("a"), trees("-1", "if(a, b, c)", "true", "(1 + 2) * 3")),
	}
}

// six is a move of each kind, in the order of the kinds.
func six() ([]api.Move, []string) {
	texts := []string{"add x int = a + 1;\n", "drop t back 'none';\n", "rename a to b;\n", "split a into b int = a / 10, c int = a % 10 back b * 10 + c;\n", "merge c, d into e int = c * 10 + d back e / 10, e % 10;\n", "retype e text = str(e) back num(e);\n"}
	var l []api.Move
	for _, s := range texts {
		l = append(l, rightMoves()[s])
	}
	return l, texts
}

// equal holds moves against each other by all that is in them.
func equal(a, b []api.Move) bool {
	return slices.EqualFunc(a, b, func(m, n api.Move) bool {
		return m.Kind == n.Kind && slices.Equal(m.Take, n.Take) && slices.Equal(m.Give, n.Give) &&
			slices.EqualFunc(m.Ahead, n.Ahead, equalTree) && slices.EqualFunc(m.Back, n.Back, equalTree)
	})
}

func equalTree(x, y api.Expr) bool {
	return x.Op == y.Op && x.Text == y.Text && x.Val == y.Val && slices.EqualFunc(x.Kids, y.Kids, equalTree)
}

// reads says that a source has these moves.
func reads(t *testing.T, src string, want ...api.Move) {
	t.Helper()
	if l, f := Parse(src); f != (api.Fault{}) || !equal(l, want) {
		t.Errorf("%.300q: %v, %v; asked for %v", src, l, f, want)
	}
}

// faulty says that a source has this fault.
func faulty(t *testing.T, src string, code api.Errno, at int) {
	t.Helper()
	if l, f := Parse(src); f != (api.Fault{Code: code, At: at}) || len(l) != 0 {
		t.Errorf("%.300q: %v, %v; asked for error %d at %d", src, l, f, code, at)
	}
}

// prints says that moves have this text.
func prints(t *testing.T, want string, l ...api.Move) {
	t.Helper()
	if s, e := Print(l); s != want || e != api.OK || !Right(l) {
		t.Errorf("%.300q, error %d, right %t; asked for %.300q", s, e, Right(l), want)
	}
}

// none says that moves have no text, by this error.
func none(t *testing.T, what any, code api.Errno, l ...api.Move) {
	t.Helper()
	if s, e := Print(l); s != "" || e != code || Right(l) != (code != api.ErrArg) {
		t.Errorf("%v: %.300q, error %d, right %t; asked for error %d", what, s, e, Right(l), code)
	}
}

// P18.2
func TestWord(t *testing.T) {
	for kind, want := range map[int]string{1: "add", 2: "drop", 3: "rename", 4: "split", 5: "merge", 6: "retype", 0: "", 7: "", -1: "", 257: "", 1 << 32: "", math.MaxInt: "", math.MinInt: ""} {
		if s := Word(kind); s != want {
			t.Errorf("%d: %q; asked for %q", kind, s, want)
		}
	}
}

// P18.1, P18.2, P18.3
func TestMoves(t *testing.T) {
	for s, m := range rightMoves() {
		reads(t, s, m)
		prints(t, s, m)
	}
	reads(t, "")
	prints(t, "")
	if !Right([]api.Move{}) || !Right(nil) {
		t.Error("no moves are a migration")
	}
	l, texts := six()
	for i := range l {
		for j := range l {
			reads(t, texts[i]+texts[j], l[i], l[j])
			prints(t, texts[i]+texts[j], l[i], l[j])
		}
	}
	l, texts = append(l, l[0], l[2]), append(texts, texts[0], texts[2])
	reads(t, strings.Join(texts, ""), l...)
	prints(t, strings.Join(texts, ""), l...)
}

// P18.1: no blanks where words stay apart, or as many as one likes.
func TestBlanks(t *testing.T) {
	l, texts := six()
	for i, m := range l {
		words, _ := lex.Lex(texts[i])
		var tight, wide, notes strings.Builder
		for j, w := range words[:len(words)-1] {
			word := strings.TrimSpace(texts[i][w.At:words[j+1].At])
			if j > 0 && w.Kind <= api.TokNum && words[j-1].Kind <= api.TokNum {
				tight.WriteString(" ")
			}
			tight.WriteString(word)
			wide.WriteString(" \t\n " + word)
			notes.WriteString("# ; ' back\n" + word)
		}
		for _, src := range []string{tight.String(), wide.String(), notes.String(), wide.String() + "# " + notes.String()[2:10], " \n" + strings.TrimSpace(texts[i]), tight.String() + strings.Repeat(" ", 4000-tight.Len())} {
			reads(t, src, m)
		}
		reads(t, tight.String()+tight.String()+wide.String(), m, m, m)
	}
	for _, src := range []string{" ", "\n", "#", "# add x", " # ;\n\t", strings.Repeat(" ", 4000)} {
		reads(t, src)
	}
	reads(t, "add x int=((a))+(1);", l[0])
}

// P18.1: the first word that can't stand there.
func TestForm(t *testing.T) {
	for src, at := range map[string]int{
		";": 0, "a": 0, "x int = 1;": 0, "select;": 0, "into": 0, "int": 0, "1": 0, "'add' x int = 1;": 0, "+": 0, "adds x int = 1;": 0, "back 1;": 0, "=": 0,

		"add": 3, "add;": 3, "add 1": 4, "add int": 4, "add 'x' int = 1;": 4, "add x": 5, "add x;": 5, "add x = 1;": 6, "add x y": 6, "add x null = 1;": 6, "add x 'int' = 1;": 6, "add x back": 6,
		"add x int": 9, "add x int 1;": 10, "add x int '=' 1;": 10, "add x int;": 9, "add x int ==": 11, "add x int =": 11, "add x int = ;": 12, "add x int = back": 12, "add x int = 1": 13, "add x int = 1 2": 14, "add x int = 1 ';'": 14,
		"add x int = 1, y int = 2;": 13, "add x int = 1 back 2;": 14, "add x int = a = b = c;": 18, "add x int = 1;;": 14, "add x int = 1; x": 15, "add x, y int = 1;": 5,

		"drop": 4, "drop drop": 5, "drop a;": 6, "drop a": 6, "drop a int = 1;": 7, "drop a, b back 1;": 6, "drop a 'back' 1;": 7, "drop a back": 11, "drop a back;": 11, "drop a back 1": 13, "drop a back 1, 2;": 13, "drop a back 1 back 1;": 14, "drop a into": 7,

		"rename": 6, "rename to": 7, "rename a": 8, "rename a b;": 9, "rename a into b;": 9, "rename a 'to' b;": 9, "rename a to": 11, "rename a to to;": 12, "rename a to 1;": 12, "rename a to b": 13, "rename a to b c": 14, "rename a to b int;": 14, "rename a to b back": 14,
		"rename a to b, c to d;": 13, "rename a + b to c;": 9, "rename a to b = 1;": 14,

		"split": 5, "split into": 6, "split a": 7, "split a b": 8, "split a, b into": 7, "split a to": 8, "split a into": 12, "split a into back": 13, "split a into b": 14, "split a into b int": 18, "split a into b int =": 20, "split a into b int = 1": 22,
		"split a into b int = 1 back 2;": 23, "split a into b int = 1;": 22, "split a into b int = 1 ',' c int": 23, "split a into b int = 1,": 23, "split a into b int = 1, back": 24, "split a into b int = 1, c": 25, "split a into b int = 1, c, d": 25,
		"split a into b int = 1, c int = 2": 33, "split a into b int = 1, c int = 2;": 33, "split a into b int = 1, c int = 2 'back' 3;": 34, "split a into b int = 1, c int = 2, back 3;": 35, "split a into b int = 1, c int = 2 d int": 34, "split a into b int = 1, c int = 2 back": 38,
		"split a into b int = 1, c int = 2 back 3": 40, "split a into b int = 1, c int = 2 back 3, 4;": 40, "split a into b int = 1, c int = 2, d int = 3": 44,

		"merge": 5, "merge into": 6, "merge a": 7, "merge a into b int = 1 back 1;": 8, "merge a;": 7, "merge a b": 8, "merge a ',' b": 8, "merge a,": 8, "merge a, into": 9, "merge a, b": 10, "merge a, b, into": 12, "merge a, b;": 10, "merge a, b to c": 11, "merge a, b c": 11,
		"merge a, b into": 15, "merge a, b into c int": 21, "merge a, b into c = 1": 18, "merge a, b into c int = 1": 25, "merge a, b into c int = 1, d int = 2 back": 25, "merge a, b into c int = 1;": 25, "merge a, b into c int = 1 back": 30, "merge a, b into c int = 1 back;": 30,
		"merge a, b into c int = 1 back 1": 32, "merge a, b into c int = 1 back 1;": 32, "merge a, b into c int = 1 back 1 2;": 33, "merge a, b into c int = 1 back 1,": 33, "merge a, b into c int = 1 back 1,;": 33, "merge a, b into c int = 1 back 1, 2": 35, "merge a, b into c int = 1 back 1, 2, 3;": 35, "merge a, b into c int = 1 back 1, 2 3;": 36,
		"merge a, b, c into d int = 1 back 1, 2;": 38, "merge a, b, c into d int = 1 back 1, 2, 3, 4;": 41, "merge a, b, c into d int = 1 back 1;": 35,

		"retype": 6, "retype a": 8, "retype a;": 8, "retype a = 1": 9, "retype a b text": 9, "retype a text": 13, "retype a text = ": 16, "retype a text = 1": 17, "retype a text = 1;": 17, "retype a text = 1, 2": 17, "retype a text = 1 back": 22, "retype a text = 1 back 2": 24, "retype a text = 1 back 2, 3;": 24, "retype a to text": 9, "retype a text back": 14,
	} {
		faulty(t, src, api.ErrForm, at)
		faulty(t, "rename a to b;\n"+src, api.ErrForm, 15+at)
		faulty(t, "# a\n"+src+" #", api.ErrForm, 4+endOr(src, at))
	}
}

// endOr is the place of a fault, if a blank is put behind a source.
func endOr(src string, at int) int {
	if at == len(src) {
		return at + 2
	}
	return at
}

// P18.1: what is cut off behind a word has its fault at the end.
func TestCut(t *testing.T) {
	for s := range rightMoves() {
		words, _ := lex.Lex(s)
		for _, w := range words[1 : len(words)-1] {
			src := strings.TrimSpace(s[:w.At])
			faulty(t, src, api.ErrForm, len(src))
			faulty(t, s+src+" # ;", api.ErrForm, len(s+src)+4)
		}
	}
}

// P18.1: expr.At's faults, as they stand, at the place of any tree.
func TestTreeFaults(t *testing.T) {
	deep := strings.Repeat("1+", 30) + "1"
	both := "nvl(" + wide() + ", " + deep + ")"
	for src, f := range map[string]api.Fault{
		"foo(1)": {Code: api.ErrName, At: 0}, "1 + foo (": {Code: api.ErrName, At: 4}, "len()": {Code: api.ErrForm, At: 4}, "len(1, 2)": {Code: api.ErrForm, At: 0}, "2 * nvl(1)": {Code: api.ErrForm, At: 4},
		"(1": {Code: api.ErrForm, At: 3}, "1 +": {Code: api.ErrForm, At: 4}, "a = b = c": {Code: api.ErrForm, At: 6}, "- not a": {Code: api.ErrForm, At: 2},
		strings.Repeat("(", 31): {Code: api.ErrDeep, At: 30}, strings.Repeat("-", 31) + "1": {Code: api.ErrDeep, At: 30},
		deep: {Code: api.ErrDeep, At: 0}, deep + " foo": {Code: api.ErrDeep, At: 0}, both: {Code: api.ErrDeep, At: 0}, wide(): {Code: api.ErrLong, At: 0},
	} {
		for _, ahead := range []string{"add x int = ", "drop a back ", "split a into b int = ", "split a into b int = 1, c int = ", "split a into b int = 1, c int = 2 back ", "merge a, b into c int = ", "merge a, b into c int = 1 back ", "merge a, b into c int = 1 back 1, ", "retype a int = ", "retype a int = 1 back "} {
			faulty(t, ahead+src+" ;", f.Code, len(ahead)+f.At)
			faulty(t, "rename a to b; "+ahead+src+" ; add", f.Code, 15+len(ahead)+f.At)
		}
	}
}

// wide is an expression of more nodes than may be, but not deep.
func wide() string {
	src := "1"
	for range 8 {
		src = "(" + src + "=" + src + ")"
	}
	return src
}

// P18.1: lex's fault is told first, wherever it stands.
func TestWordFaults(t *testing.T) {
	faulty(t, "add x int = $;", api.ErrText, 12)
	faulty(t, "select; $", api.ErrText, 8)
	faulty(t, "add x int = foo(1); add y int = 'a", api.ErrText, 32)
	faulty(t, "add x int = 01;", api.ErrText, 12)
	faulty(t, "add x int = 9223372036854775808;", api.ErrOver, 12)
	faulty(t, "add abcdefghijklmnopq int = 1;", api.ErrLong, 4)
	faulty(t, strings.Repeat("rename a to b;", 9)+"!", api.ErrText, 126)
	faulty(t, strings.Repeat("rename a to b;", 300), api.ErrLong, 0)
	faulty(t, strings.Repeat(" ", 4001), api.ErrLong, 0)
	faulty(t, "\xff", api.ErrText, 0)
	faulty(t, "add x int = 1;\r\n", api.ErrText, 14)
}

// P18.1
func TestTooMany(t *testing.T) {
	l, texts := six()
	for i, m := range l {
		src := strings.Repeat(texts[i], 8)
		reads(t, src, m, m, m, m, m, m, m, m)
		reads(t, src+"# add", m, m, m, m, m, m, m, m)
		prints(t, src, m, m, m, m, m, m, m, m)
		none(t, "nine moves", api.ErrArg, m, m, m, m, m, m, m, m, m)
		for _, behind := range []string{"add x int = 1;", "add", ";", "select", "a", "1", "'add'", ",", "foo(1)", "into", texts[5], strings.Repeat(texts[2], 2)} {
			faulty(t, src+behind, api.ErrLong, len(src))
			faulty(t, src+"# a\n "+behind, api.ErrLong, len(src)+5)
		}
		faulty(t, src[len(texts[i]):]+"add x; add x", api.ErrForm, 7*len(texts[i])+5)
		faulty(t, src[len(texts[i]):]+"add x int = foo(1); add x", api.ErrName, 7*len(texts[i])+12)
		faulty(t, src[len(texts[i]):]+strings.TrimRight(texts[i], ";\n")+"\nadd", api.ErrForm, len(src)-1)
	}
	none(t, "nine moves that are none", api.ErrArg, make([]api.Move, 9)...)
	none(t, "very many moves", api.ErrArg, make([]api.Move, 1<<20)...)
}

// spoilt is a copy of a move, to which a function does something.
func spoilt(m api.Move, how func(*api.Move)) api.Move {
	m.Take, m.Give, m.Ahead, m.Back = slices.Clone(m.Take), slices.Clone(m.Give), slices.Clone(m.Ahead), slices.Clone(m.Back)
	how(&m)
	return m
}

// wrongMoves are all that become of a move that is right by one thing, each of
// which no text says.
func wrongMoves(m api.Move) []api.Move {
	var l []api.Move
	add := func(how func(*api.Move)) { l = append(l, spoilt(m, how)) }
	for _, kind := range []int{-1, 0, 7, 8, 257, 1 << 32, math.MaxInt, math.MinInt} {
		add(func(m *api.Move) { m.Kind = kind })
	}
	badTrees := []api.Expr{{}, {Op: api.OpName}, {Op: api.OpName, Text: "int"}, {Op: api.OpVal, Val: api.Value{Kind: api.KInt, N: -1}}, {Op: api.OpBin, Text: "+"}, {Op: api.OpCall, Text: "foo", Kids: trees("1")}, {Op: api.OpNot, Kids: []api.Expr{{}}}, {Op: 9}, deepTree(31), deepTree(100000)}
	badNames := []string{"", " ", "A", "a b", " a", "a ", "1", "int", "to", "back", "'a'", "\xff", "a,", "a;", "a#", "abcdefghijklmnopq", strings.Repeat("a", 1<<16)}
	add(func(m *api.Move) { m.Take = append(m.Take, "") })
	add(func(m *api.Move) { m.Give = append(m.Give, api.Col{}) })
	add(func(m *api.Move) { m.Ahead = append(m.Ahead, tree("1")) })
	add(func(m *api.Move) { m.Back = append(m.Back, tree("1")) })
	for i := range m.Take {
		for _, s := range badNames {
			add(func(m *api.Move) { m.Take[i] = s })
		}
	}
	for i := range m.Give {
		for _, s := range badNames {
			add(func(m *api.Move) { m.Give[i].Name = s })
		}
		other := []int{-1, 4, 5, 257, 1 << 32, math.MaxInt, math.MinInt, 0}
		if m.Kind == api.MoveRename {
			other = append(other[:7], 1, 2, 3)
		}
		for _, kind := range other {
			add(func(m *api.Move) { m.Give[i].Kind = kind })
		}
	}
	for _, x := range badTrees {
		for i := range m.Ahead {
			add(func(m *api.Move) { m.Ahead[i] = x })
		}
		for i := range m.Back {
			add(func(m *api.Move) { m.Back[i] = x })
		}
	}
	if len(m.Ahead) > 0 {
		add(func(m *api.Move) { m.Ahead = m.Ahead[1:] })
	}
	if len(m.Back) > 0 {
		add(func(m *api.Move) { m.Back = m.Back[1:] })
	}
	return l
}

// deepTree is one of so many nodes, one below the other.
func deepTree(n int) api.Expr {
	x := tree("1")
	for range n - 1 {
		x = api.Expr{Op: api.OpNeg, Kids: []api.Expr{x}}
	}
	return x
}

// P18.2
func TestWrongMoves(t *testing.T) {
	other := rightMoves()["drop t back 'none';\n"]
	for s, m := range rightMoves() {
		for _, w := range wrongMoves(m) {
			none(t, s, api.ErrArg, w)
		}
		w := wrongMoves(m)[0]
		none(t, s, api.ErrArg, other, w)
		none(t, s, api.ErrArg, w, other)
		none(t, s, api.ErrArg, other, other, other, w, other, other, other, other)
	}
}

// P18.2: as many of each thing as a kind has.
func TestCounts(t *testing.T) {
	counts := map[[3]int]bool{{1, 0, 1}: true, {2, 1, 0}: true, {4, 1, 2}: true, {4, 1, 3}: true, {5, 2, 1}: true, {5, 3, 1}: true, {6, 1, 1}: true}
	for kind := -1; kind <= 8; kind++ {
		for take := range 4 {
			for give := range 4 {
				for ahead := range 4 {
					for back := range 4 {
						m := move(kind, strings.Repeat("a ", take), strings.Repeat("a:1 ", give), trees("1", "2", "3")[:ahead], trees("1", "2", "3")[:back])
						if want := counts[[3]int{kind, take, give}] && ahead == give && back == take; Right([]api.Move{m}) != want {
							t.Errorf("kind %d, %d go, %d come, trees %d, %d: right %t", kind, take, give, ahead, back, !want)
						}
					}
				}
			}
		}
	}
	for take := range 4 {
		for give := range 4 {
			m := move(3, strings.Repeat("a ", take), strings.Repeat("a ", give), trees("a", "a", "a")[:give], trees("a", "a", "a")[:take])
			if Right([]api.Move{m}) != (take == 1 && give == 1) {
				t.Errorf("rename, %d go, %d come: right %t", take, give, Right([]api.Move{m}))
			}
		}
	}
}

// P18.2: what a rename and a retype say once.
func TestAgreed(t *testing.T) {
	none(t, "another name behind", api.ErrArg, move(6, "a", "b:1", trees("a"), trees("a")))
	none(t, "a column without a kind", api.ErrArg, move(6, "a", "a", trees("a"), trees("a")))
	for _, kind := range []int{0, 1, 2, 4, 5, 6} {
		none(t, kind, api.ErrArg, move(kind, "a", "b", trees("a"), trees("b")))
	}
	for _, c := range []string{"b:1", "b:2", "b:3"} {
		none(t, c, api.ErrArg, move(3, "a", c, trees("a"), trees("b")))
	}
	for _, s := range []string{"b", "c", "1", "-a", "a + 0", "'a'", "nvl(a, a)"} {
		none(t, s, api.ErrArg, move(3, "a", "b", trees(s), trees("b")))
		none(t, s, api.ErrArg, move(3, "b", "a", trees("b"), trees(s)))
	}
	none(t, "trees that stand in each other's places", api.ErrArg, move(3, "a", "b", trees("b"), trees("a")))
	for _, x := range []api.Expr{{Op: api.OpName, Text: "a", Val: api.Value{Kind: 1}}, {Op: api.OpName, Text: "a", Kids: trees("a")}, {Op: api.OpVal, Text: "a"}} {
		none(t, x, api.ErrArg, move(3, "a", "a", []api.Expr{x}, trees("a")))
		none(t, x, api.ErrArg, move(3, "a", "a", trees("a"), []api.Expr{x}))
	}
	empty := api.Expr{Op: api.OpName, Text: "a", Kids: []api.Expr{}} // a list without items is none
	prints(t, "rename a to a;\n", move(3, "a", "a", []api.Expr{empty}, []api.Expr{empty}))
	m := move(1, "", "x:1", trees("1"), nil)
	m.Take, m.Back = []string{}, []api.Expr{}
	prints(t, "add x int = 1;\n", m)
}

// sized is an add whose text has that many bytes: texts that are strung.
func sized(size int) api.Move {
	left := size - len("add x text = '';\n")
	x := letters(min(left, 200))
	left -= len(x.Val.S)
	for left > 0 { // '' and & with its blanks are five
		n := min(left, 205)
		if left > n {
			n = min(n, left-5)
		}
		x = api.Expr{Op: api.OpBin, Text: "&", Kids: []api.Expr{x, letters(n - 5)}}
		left -= n
	}
	return move(1, "", "x:2", []api.Expr{x}, nil)
}

// letters is a text of so many.
func letters(n int) api.Expr {
	return api.Expr{Op: api.OpVal, Val: api.Value{Kind: api.KText, S: strings.Repeat("y", n)}}
}

// P18.2: texts as long as may be.
func TestLong(t *testing.T) {
	for _, l := range [][]api.Move{{sized(4000)}, {sized(1500), sized(2500)}, {sized(400), sized(400), sized(400), sized(400), sized(400), sized(400), sized(400), sized(1200)}} {
		s, e := Print(l)
		if len(s) != 4000 || e != api.OK {
			t.Fatal(len(s), e)
		}
		reads(t, s, l...)
	}
	for _, l := range [][]api.Move{{sized(4001)}, {sized(4015)}, {sized(5000)}, {sized(1500), sized(2501)}, {sized(3990), rightMoves()["rename a to b;\n"]}, {rightMoves()["rename a to b;\n"], sized(3986)}, {sized(2000), sized(2000), sized(2000)}} {
		none(t, "a long one", api.ErrLong, l...)
	}
	prints(t, "rename a to b;\n"+text(t, sized(3985)), rightMoves()["rename a to b;\n"], sized(3985))
	none(t, "a wrong one behind long ones", api.ErrArg, sized(4001), api.Move{})
	none(t, "a wrong one ahead of long ones", api.ErrArg, api.Move{}, sized(4001))
}

func text(t *testing.T, l ...api.Move) string {
	t.Helper()
	s, e := Print(l)
	if e != api.OK {
		t.Fatal(l, e)
	}
	return s
}

// P18.2, R1: lists of any length.
func TestVeryLong(t *testing.T) {
	n := 1 << 17
	x := sized(3900).Ahead[0]
	split := api.Move{Kind: 4, Take: []string{"a"}, Give: slices.Repeat(cols("b:1"), n), Ahead: slices.Repeat([]api.Expr{x}, n), Back: trees("1")}
	merge := api.Move{Kind: 5, Take: slices.Repeat([]string{"a"}, n), Give: cols("b:1"), Ahead: trees("1"), Back: slices.Repeat([]api.Expr{tree("1")}, n)}
	none(t, "many columns", api.ErrLong, split)
	none(t, "many names", api.ErrLong, merge)
	if !Same([]api.Move{split, merge}, []api.Move{split, merge}) || Same([]api.Move{split}, []api.Move{merge}) {
		t.Error("long ones that are the same")
	}
	split.Ahead = slices.Clone(split.Ahead)
	split.Ahead[n-1] = api.Expr{}
	none(t, "many columns, with a tree that is none", api.ErrArg, split)
	merge.Take = slices.Clone(merge.Take)
	merge.Take[n-1] = "int"
	none(t, "many names, with one that is none", api.ErrArg, merge)
}

// P18.1, P18.2: as many columns and names as a text has room for.
func TestManyInOne(t *testing.T) {
	for n := 2; n <= 200; n += 22 {
		split := api.Move{Kind: 4, Take: []string{"a"}, Give: slices.Repeat(cols("b:1"), n), Ahead: slices.Repeat(trees("1"), n), Back: trees("2")}
		merge := api.Move{Kind: 5, Take: slices.Repeat([]string{"b"}, n), Give: cols("c:3"), Ahead: trees("1"), Back: slices.Repeat(trees("2"), n)}
		s := "split a into b int = 1" + strings.Repeat(", b int = 1", n-1) + " back 2;\n"
		m := "merge b" + strings.Repeat(", b", n-1) + " into c bool = 1 back 2" + strings.Repeat(", 2", n-1) + ";\n"
		prints(t, s, split)
		prints(t, m, merge)
		reads(t, s, split)
		reads(t, m, merge)
		faulty(t, m[:len(m)-2]+", 2;", api.ErrForm, len(m)-2)
		faulty(t, m[:len(m)-5]+";", api.ErrForm, len(m)-5)
	}
}

// P18.2
func TestSame(t *testing.T) {
	if !Same(nil, nil) || !Same(nil, []api.Move{}) {
		t.Error("no moves")
	}
	l, _ := six()
	again, _ := six()
	for i := range l {
		for j := range l {
			if Same(l[i:i+1], again[j:j+1]) != (i == j) || !Same(l[i:j+1+max(0, i-j)], again[i:j+1+max(0, i-j)]) {
				t.Errorf("%d, %d", i, j)
			}
		}
		if Same(l[:i], again) || Same(again, l[:i]) || Same(l[:i], again[1:i+1]) != (i == 0) {
			t.Error(i)
		}
	}
	for s, m := range rightMoves() {
		for i, w := range wrongMoves(m) {
			if Same([]api.Move{m}, []api.Move{w}) || Same([]api.Move{w}, []api.Move{m}) || !Same([]api.Move{w}, []api.Move{spoilt(w, func(*api.Move) {})}) {
				t.Errorf("%q, %d: %.300v", s, i, w)
			}
		}
	}
	for _, pair := range [][2]string{{"rename a to b;", "rename a to c;"}, {"rename a to b;", "rename c to b;"}, {"add x int = 1;", "add x text = 1;"}, {"add x int = 1;", "add y int = 1;"}, {"add x int = 1;", "add x int = 2;"}, {"add x int = 1;", "add x int = '1';"},
		{"drop a back 1;", "drop a back 2;"}, {"drop a back 1;", "drop b back 1;"}, {"merge a, b into c int = 1 back 1, 2;", "merge b, a into c int = 1 back 1, 2;"}, {"merge a, b into c int = 1 back 1, 2;", "merge a, b into c int = 1 back 2, 1;"}, {"split a into b int = 1, c int = 2 back 3;", "split a into c int = 1, b int = 2 back 3;"},
		{"rename a to b; rename b to c;", "rename b to c; rename a to b;"}, {"add x int = 1;", "add x int = 1; add x int = 1;"}, {"add x int = a + (b + c);", "add x int = a + b + c;"}} {
		a, f := Parse(pair[0])
		b, g := Parse(pair[1])
		if f.Code != api.OK || g.Code != api.OK || Same(a, b) || Same(b, a) || !Same(a, a) {
			t.Error(pair)
		}
	}
}

// P18.3: a text whose brackets nest too deep isn't parsed, but is printed.
func TestNestsTooDeep(t *testing.T) {
	x := tree("a")
	for i := range 13 {
		x = api.Expr{Op: api.OpNeg, Kids: []api.Expr{{Op: api.OpBin, Text: "+", Kids: []api.Expr{tree("1"), x}}}}
		m := move(2, "a", "", nil, []api.Expr{x})
		s := "drop a back " + strings.Repeat("-(1 + ", i+1) + "a" + strings.Repeat(")", i+1) + ";\n"
		prints(t, s, m)
		reads(t, s, m)
	}
	for range 8 {
		x = api.Expr{Op: api.OpNeg, Kids: []api.Expr{{Op: api.OpNot, Kids: []api.Expr{x}}}}
	}
	none(t, "a tree that is too deep", api.ErrArg, move(2, "a", "", nil, []api.Expr{x}))
	x = tree("a")
	for range 14 {
		x = api.Expr{Op: api.OpNeg, Kids: []api.Expr{{Op: api.OpNot, Kids: []api.Expr{x}}}}
	}
	s := "drop a back " + strings.Repeat("-(not ", 14) + "a" + strings.Repeat(")", 14) + ";\n"
	prints(t, s, move(2, "a", "", nil, []api.Expr{x}))
	faulty(t, s, api.ErrDeep, 12+60)
}

// R1: what goes up and is a fault is told; what is none goes on.
func TestCaught(t *testing.T) {
	f := api.Fault{Code: api.ErrForm, At: 7}
	if caught(nil) != (api.Fault{}) || caught(f) != f {
		t.Error(caught(nil), caught(f))
	}
	defer func() {
		if r := recover(); r != "another" {
			t.Error(r)
		}
	}()
	caught("another")
}
