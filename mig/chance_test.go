package mig

import (
	"math/rand"
	"slices"
	"strings"
	"testing"

	"needlebeam/api"
	"needlebeam/expr"
	"needlebeam/lex"
	"needlebeam/show"
)

// A pattern is how a move's words stand, in one line: T is a name that goes, G
// one that comes, B one that does both, K a kind, A a tree ahead, Z one behind
// back; each other word is itself.

// pattern is that of a kind, with n things in the list that may have more.
func pattern(kind, n int) []string {
	list := func(one string, n int) string {
		return one + strings.Repeat(" , "+one, n-1)
	}
	return strings.Fields([]string{
		"add G K = A ;",
		"drop T back Z ;",
		"rename T to G ;",
		"split T into " + list("G K = A", n) + " back Z ;",
		"merge " + list("T", n) + " into G K = A back " + list("Z", n) + " ;",
		"retype B K = A back Z ;",
	}[kind-1])
}

// attempt is how far words go by a pattern.
type attempt struct {
	move  api.Move
	end   int // place of the word behind it, or of the first one that doesn't go
	fault api.Fault
}

func isSign(w api.Tok, s string) bool {
	return (w.Kind == 2 || w.Kind == 5) && w.Text == s
}

// attempted goes by one pattern from the word at a place.
func attempted(words []api.Tok, at int, kind, n int) attempt {
	a := attempt{move: api.Move{Kind: kind}, end: at}
	m := &a.move
	kinds := map[string]int{"int": 1, "text": 2, "bool": 3}
	for _, p := range pattern(kind, n) {
		w := words[a.end]
		fits := isSign(w, p)
		switch p {
		case "T", "G", "B":
			fits = w.Kind == 1
			if p != "G" {
				m.Take = append(m.Take, w.Text)
			}
			if p != "T" {
				m.Give = append(m.Give, api.Col{Name: w.Text})
			}
		case "K":
			fits = w.Kind == 2 && kinds[w.Text] != 0
			m.Give[len(m.Give)-1].Kind = kinds[w.Text]
		case "A", "Z":
			x, end, f := expr.At(words, a.end)
			if f.Code != api.OK {
				a.fault = f
				return a
			}
			if p == "A" {
				m.Ahead = append(m.Ahead, x)
			} else {
				m.Back = append(m.Back, x)
			}
			a.end = end
			continue
		}
		if !fits {
			a.fault = api.Fault{Code: api.ErrForm, At: w.At}
			return a
		}
		a.end++
	}
	if kind == 3 {
		m.Ahead, m.Back = trees(m.Take[0]), trees(m.Give[0].Name)
	}
	return a
}

// meant is what Parse should tell of words: of each move the pattern by which
// they go on to its end, or else by which they go on furthest.
func meant(words []api.Tok) ([]api.Move, api.Fault) {
	var l []api.Move
	for at := 0; words[at].Kind != 0; {
		if len(l) == 8 {
			return nil, api.Fault{Code: api.ErrLong, At: words[at].At}
		}
		best := attempt{end: -1}
		for kind := 1; kind <= 6; kind++ {
			for n := 2; n < 8; n++ {
				if a := attempted(words, at, kind, n); a.end > best.end {
					best = a
				}
			}
		}
		if best.fault.Code != api.OK {
			return nil, best.fault
		}
		l = append(l, best.move)
		at = best.end
	}
	return l, api.Fault{}
}

// told is the text that a right move should have.
func told(m api.Move) string {
	var b strings.Builder
	take, give, ahead, behind := m.Take, m.Give, m.Ahead, m.Back
	kinds := []string{"", "int", "text", "bool"}
	n := max(len(take), len(give), 2)
	for i, p := range pattern(m.Kind, n) {
		if i > 0 && p != "," && p != ";" {
			b.WriteString(" ")
		}
		switch p {
		case "T":
			b.WriteString(take[0])
			take = take[1:]
		case "G", "B":
			b.WriteString(give[0].Name)
		case "K":
			b.WriteString(kinds[give[0].Kind])
			give = give[1:]
		case "A":
			s, _ := show.Print(ahead[0])
			b.WriteString(s)
			ahead = ahead[1:]
		case "Z":
			s, _ := show.Print(behind[0])
			b.WriteString(s)
			behind = behind[1:]
		default:
			b.WriteString(p)
		}
	}
	return b.String() + "\n"
}

// drawer draws moves and sources.
type drawer struct {
	*rand.Rand
}

func newDrawer(seed int64) drawer {
	return drawer{rand.New(rand.NewSource(seed))}
}

// of is one of these.
func (d drawer) of(l ...string) string {
	return l[d.Intn(len(l))]
}

func (d drawer) name() string {
	return d.of("a", "b", "c", "len", "x9", "t_", "nvl", "ints", "abcdefghijklmnop")
}

// expression is the text of one of at most that depth.
func (d drawer) expression(deep int) string {
	if deep <= 1 || d.Intn(3) == 0 {
		return d.of("a", "b", "len", "0", "12", "'x'", "'It''s'", "';'", "'back'", "true", "null")
	}
	kid := func() string { return d.expression(deep - 1) }
	switch d.Intn(7) {
	case 0:
		return "( ( " + kid() + " ) )"
	case 1:
		return d.of("- ( ", "( not ") + kid() + " )"
	case 2:
		return d.of("len", "str", "num", "isnull") + " ( " + kid() + " )"
	case 3:
		return d.of("nvl", "left", "right") + " ( " + kid() + " , " + kid() + " )"
	}
	return "( " + kid() + " ) " + d.of("or", "and", "=", "!=", "<=", "+", "-", "&", "*", "/", "%") + " ( " + kid() + " )"
}

// words are those of a move of chance.
func (d drawer) words() []string {
	var words []string
	for _, p := range pattern(1+d.Intn(6), 2+d.Intn(3)) {
		switch p {
		case "T", "G", "B":
			words = append(words, d.name())
		case "K":
			words = append(words, d.of("int", "text", "bool"))
		case "A", "Z":
			words = append(words, strings.Fields(d.expression(1+d.Intn(3)))...)
		default:
			words = append(words, p)
		}
	}
	return words
}

// turned are words of which one is another, comes to them, or goes.
func (d drawer) turned(words []string) []string {
	words = slices.Clone(words)
	other := d.of("add", "drop", "rename", "split", "merge", "retype", "into", "to", "back", "int", "text", "null", "select", "a", "b", "len", "foo", "foo", "foo", "foo", "1", "'x'", "'back'", "';'", "','", ",", ",", ";", ";", "=", "(", ")", "+", "-", ":")
	at := d.Intn(len(words) + 1)
	switch {
	case at == len(words) || d.Intn(3) == 0:
		return slices.Insert(words, at, other)
	case d.Intn(2) == 0:
		words[at] = other
		return words
	case d.Intn(3) == 0:
		return words[:at]
	}
	return slices.Delete(words, at, at+1)
}

// source is one of these words, with blanks and notes between.
func (d drawer) source(words []string) string {
	var b strings.Builder
	for _, w := range words {
		b.WriteString(d.of(" ", " ", " ", "\n", "\t", "# ; '\n") + w)
	}
	return b.String() + d.of("", " ", "\n", "# add")
}

// migration is one of chance.
func (d drawer) migration(most int) []api.Move {
	for {
		var words []string
		for range d.Intn(most + 1) {
			words = append(words, d.words()...)
		}
		if l, f := Parse(strings.Join(words, " ")); f.Code == api.OK {
			return l
		}
	}
}

// P18.1, P18.2, P18.3
func TestSourcesOfChance(t *testing.T) {
	d := newDrawer(18)
	seen := map[api.Errno]int{}
	for i := range 24000 {
		var words []string
		for range 1 + d.Intn(4)*d.Intn(4) {
			words = append(words, d.words()...)
		}
		if i%5 > 0 {
			for range d.Intn(3) {
				words = d.turned(words)
			}
		}
		src := d.source(words)
		toks, f := lex.Lex(src)
		if f.Code != api.OK {
			continue // of a source that is too long
		}
		want, fault := meant(toks)
		l, f := Parse(src)
		if f != fault || !equal(l, want) {
			t.Fatalf("%q: %v, %v; asked for %v, %v", src, l, f, want, fault)
		}
		seen[f.Code]++
		if f.Code == api.OK {
			reprinted(t, l)
		}
	}
	if seen[api.OK] < 2000 || seen[api.ErrForm] < 2000 || seen[api.ErrName] < 60 || seen[api.ErrLong] < 200 {
		t.Error(seen)
	}
}

// reprinted says that a migration has its text, and is read again as it was.
func reprinted(t *testing.T, l []api.Move) {
	t.Helper()
	want := ""
	for _, m := range l {
		want += told(m)
	}
	s, e := Print(l)
	if len(want) > api.MaxSource {
		if s != "" || e != api.ErrLong {
			t.Fatalf("%v: %q, error %d; asked for %q", l, s, e, want)
		}
		return
	}
	back, f := Parse(s)
	if s != want || e != api.OK || !Right(l) || f != (api.Fault{}) || !Same(back, l) || !equal(back, l) {
		t.Fatalf("%v: %q, error %d, right %t, read again %v, %v; asked for %q", l, s, e, Right(l), back, f, want)
	}
}

// P18.1: words of no order.
func TestWordsOfChance(t *testing.T) {
	d := newDrawer(19)
	for range 40000 {
		var words []string
		for range d.Intn(9) {
			words = d.turned(words)
		}
		src := d.source(words)
		toks, f := lex.Lex(src)
		if f.Code != api.OK {
			t.Fatalf("%q: %v", src, f)
		}
		want, fault := meant(toks)
		if l, f := Parse(src); f != fault || !equal(l, want) {
			t.Fatalf("%q: %v, %v; asked for %v, %v", src, l, f, want, fault)
		}
	}
}

// deep is a tree of that depth, of whose nodes signs are most.
func (d drawer) deep(depth int) api.Expr {
	x := tree(d.of("a", "1", "null"))
	for range depth - 1 {
		switch d.Intn(5) {
		case 0, 1:
			x = api.Expr{Op: api.OpNeg, Kids: []api.Expr{x}}
		case 2, 3:
			x = api.Expr{Op: api.OpNot, Kids: []api.Expr{x}}
		case 4:
			x = api.Expr{Op: api.OpBin, Text: d.of("+", "and", "=", "*"), Kids: []api.Expr{tree("b"), x}}
		}
	}
	return x
}

// P18.3: what is printed is parsed, unless brackets nest too deep, which the
// fault then tells.
func TestDeepOfChance(t *testing.T) {
	d := newDrawer(20)
	tooDeep, fit := 0, 0
	for range 6000 {
		m := move(6, "a", "a:1", []api.Expr{d.deep(16 + d.Intn(15))}, []api.Expr{d.deep(16 + d.Intn(15))})
		s, e := Print([]api.Move{m})
		if e != api.OK || s != told(m) || !Right([]api.Move{m}) {
			t.Fatalf("%q, error %d", s, e)
		}
		l, f := Parse(s)
		_, alone := expr.Parse(strings.TrimPrefix(strings.Split(s, " back ")[0], "retype a int = "))
		_, other := expr.Parse(strings.TrimSuffix(strings.Split(s, " back ")[1], ";\n"))
		switch {
		case alone.Code == api.ErrDeep:
			tooDeep++
			if f.Code != api.ErrDeep || f.At != alone.At+len("retype a int = ") || len(l) != 0 {
				t.Fatalf("%q: %v", s, f)
			}
		case other.Code == api.ErrDeep:
			tooDeep++
			if f.Code != api.ErrDeep || f.At != other.At+strings.Index(s, " back ")+6 || len(l) != 0 {
				t.Fatalf("%q: %v", s, f)
			}
		default:
			fit++
			if f != (api.Fault{}) || !equal(l, []api.Move{m}) {
				t.Fatalf("%q: %v, %v", s, l, f)
			}
		}
	}
	if tooDeep < 500 || fit < 500 {
		t.Errorf("%d nest too deep, %d don't", tooDeep, fit)
	}
}

// P18.2: each migration has a text of its own.
func TestOneTextEach(t *testing.T) {
	d := newDrawer(21)
	texts := map[string][]api.Move{}
	var last []api.Move
	for range 8000 {
		l := d.migration(2)
		s, e := Print(l)
		if e != api.OK {
			t.Fatalf("%v: error %d", l, e)
		}
		if other, found := texts[s]; found && !equal(other, l) {
			t.Fatalf("%v, %v: %q", other, l, s)
		}
		texts[s] = l
		if Same(l, last) != equal(l, last) || Same(last, l) != equal(l, last) {
			t.Fatalf("%v, %v: the same: %t", l, last, Same(l, last))
		}
		last = l
	}
}

// clone is the same migration, in memory of its own.
func clone(l []api.Move) []api.Move {
	var out []api.Move
	for _, m := range l {
		m.Take, m.Give = slices.Clone(m.Take), slices.Clone(m.Give)
		m.Ahead, m.Back = cloneTrees(m.Ahead), cloneTrees(m.Back)
		out = append(out, m)
	}
	return out
}

func cloneTrees(l []api.Expr) []api.Expr {
	var out []api.Expr
	for _, x := range l {
		x.Kids = cloneTrees(x.Kids)
		out = append(out, x)
	}
	return out
}

// spoilTrees writes over all that a list has memory for.
func spoilTrees(l []api.Expr) {
	for _, x := range l {
		spoilTrees(x.Kids)
	}
	l = l[:cap(l)]
	for i := range l {
		l[i] = api.Expr{Op: 77}
	}
}

// spoil writes over all that one of a move's four lists has memory for, and
// takes it away.
func spoil(m *api.Move, which int) {
	switch which {
	case 0:
		for i := range m.Take[:cap(m.Take)] {
			m.Take[:cap(m.Take)][i] = "spoilt"
		}
		m.Take = nil
	case 1:
		for i := range m.Give[:cap(m.Give)] {
			m.Give[:cap(m.Give)][i] = api.Col{Name: "spoilt"}
		}
		m.Give = nil
	case 2:
		spoilTrees(m.Ahead)
		m.Ahead = nil
	case 3:
		spoilTrees(m.Back)
		m.Back = nil
	}
}

// What is handed in stays as it is, one answer is told each time, and what is
// told is new memory, each list of its own.
func TestStays(t *testing.T) {
	d := newDrawer(22)
	for range 2000 {
		l := d.migration(4)
		s, e := Print(l)
		before := clone(l)
		again, _ := Parse(s)
		Same(l, again)
		Right(l)
		if s1, e1 := Print(l); s1 != s || e1 != e || !equal(l, before) {
			t.Fatalf("%v, %q; first %v, %q", l, s1, before, s)
		}
		for i := range again {
			for which := range 4 {
				want := clone(again)
				spoil(&want[i], which)
				spoil(&again[i], which)
				if !equal(again, want) {
					t.Fatalf("%q: move %d, list %d: now %v; asked for %v", s, i, which, again, want)
				}
			}
		}
		if third, f := Parse(s); f.Code != api.OK || !equal(third, before) {
			t.Fatalf("%q: %v, %v", s, third, f)
		}
	}
}

// R1: a source of any bytes ends, and has moves, or a fault within it.
func TestBytesOfChance(t *testing.T) {
	d := newDrawer(23)
	for range 20000 {
		src := []byte(d.source(d.words()))
		for range 1 + d.Intn(4) {
			src[d.Intn(len(src))] = byte(d.Intn(256))
		}
		l, f := Parse(string(src))
		if f.Code != api.OK && (len(l) != 0 || f.At < 0 || f.At > len(src)) || f.Code == api.OK && (f.At != 0 || !Right(l)) {
			t.Fatalf("%q: %v, %v", src, l, f)
		}
	}
}
