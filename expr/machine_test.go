package expr

import (
	"math/rand"
	"slices"
	"strings"
	"testing"

	"needlebeam/api"
	"needlebeam/lex"
)

// machine reads an expression with stacks of its own, by what may stand behind
// each word: no rule asks another one.
type machine struct {
	words  []api.Tok
	i      int
	frames []*frame
	want   bool // an operand comes next
	mayNot bool // .. and not may stand ahead of it
	fault  api.Fault
}

// frame is what stands between brackets; the first one is the whole.
type frame struct {
	name     api.Tok // of a call
	kids     []api.Expr
	trees    []api.Expr
	signs    []string // that wait for what is behind them: of one side as neg, not
	compared bool     // no other comparison may follow
}

func (m *machine) word(i int) api.Tok {
	if i < 0 || i >= len(m.words) {
		return api.Tok{}
	}
	return m.words[i]
}

// is says whether the word there is this mark, or reserved word.
func (m *machine) is(i int, s string) bool {
	return m.word(i).Text == s && (m.word(i).Kind == 2 || m.word(i).Kind == 5)
}

// rank is a sign's, 1 to 7, from the loosest.
func rank(sign string) int {
	switch sign {
	case "not":
		return 3
	case "neg":
		return 7
	}
	for i, l := range binaries() {
		if slices.Contains(l, sign) {
			return []int{1, 2, 4, 5, 6}[i]
		}
	}
	return 0
}

func (m *machine) top() *frame {
	return m.frames[len(m.frames)-1]
}

// nests is how many brackets, calls and signs aren't over.
func (m *machine) nests() int {
	n := len(m.frames) - 1
	for _, f := range m.frames {
		for _, s := range f.signs {
			if s == "neg" || s == "not" {
				n++
			}
		}
	}
	return n
}

// reduce lets all signs have their operands that are at least so tight.
func (f *frame) reduce(least int) {
	for len(f.signs) > 0 && rank(f.signs[len(f.signs)-1]) >= least {
		s := f.signs[len(f.signs)-1]
		f.signs = f.signs[:len(f.signs)-1]
		y := f.trees[len(f.trees)-1]
		f.trees = f.trees[:len(f.trees)-1]
		switch s {
		case "neg":
			f.trees = append(f.trees, neg(y))
		case "not":
			f.trees = append(f.trees, not(y))
		default:
			x := f.trees[len(f.trees)-1]
			f.trees[len(f.trees)-1] = bin(x, s, y)
		}
	}
}

func (m *machine) wrong(code api.Errno, at int) bool {
	m.fault = api.Fault{Code: code, At: at}
	return false
}

// operand lets a tree be the one that was wanted.
func (m *machine) operand(x api.Expr) {
	m.top().trees = append(m.top().trees, x)
	m.top().reduce(7)
	m.want = false
	m.i++
}

// opens lets the next word nest what is behind it: by a sign, or (none) a frame.
func (m *machine) opens(sign string, name api.Tok) bool {
	if m.nests() == 30 {
		return m.wrong(api.ErrDeep, m.word(m.i).At)
	}
	m.mayNot = sign != "neg"
	if sign == "" {
		m.frames = append(m.frames, &frame{name: name})
	} else {
		m.top().signs = append(m.top().signs, sign)
	}
	m.i++
	return true
}

// wanted reads a word where an operand is wanted; false at a fault.
func (m *machine) wanted() bool {
	w := m.word(m.i)
	switch {
	case m.is(m.i, "not") && m.mayNot:
		return m.opens("not", api.Tok{})
	case m.is(m.i, "-"):
		return m.opens("neg", api.Tok{})
	case m.is(m.i, "("):
		return m.opens("", api.Tok{})
	case w.Kind == 1 && m.is(m.i+1, "("):
		if functions()[w.Text] == 0 {
			return m.wrong(api.ErrName, w.At)
		}
		m.i++
		return m.opens("", w)
	case w.Kind == 1:
		m.operand(name(w.Text))
	case w.Kind == 3:
		n := int64(0)
		for _, d := range w.Text {
			n = n*10 + int64(d-'0')
		}
		m.operand(val(n))
	case w.Kind == 4:
		m.operand(text(w.Text))
	case m.is(m.i, "null"):
		m.operand(null())
	case m.is(m.i, "true"):
		m.operand(truth(1))
	case m.is(m.i, "false"):
		m.operand(truth(0))
	default:
		return m.wrong(api.ErrForm, w.At)
	}
	return true
}

// closes reads the bracket at the end of a frame.
func (m *machine) closes() bool {
	f := m.top()
	f.reduce(1)
	x := f.trees[0]
	if f.name.Text != "" {
		f.kids = append(f.kids, x)
		if len(f.kids) != functions()[f.name.Text] {
			return m.wrong(api.ErrForm, f.name.At)
		}
		x = call(f.name.Text, f.kids...)
	}
	m.frames = m.frames[:len(m.frames)-1]
	m.operand(x)
	return true
}

// behind reads a word behind an operand; false at a fault, and at the end.
func (m *machine) behind() bool {
	f, w := m.top(), m.word(m.i)
	r := 0
	if w.Kind == 2 || w.Kind == 5 {
		r = rank(w.Text)
	}
	switch {
	case r != 0 && r != 3 && !(r == 4 && f.compared):
		f.reduce(r)
		f.signs = append(f.signs, w.Text)
		f.compared = r == 4 || f.compared && r > 4
		m.want, m.mayNot = true, r < 3
		m.i++
	case m.is(m.i, ")") && len(m.frames) > 1:
		return m.closes()
	case m.is(m.i, ",") && f.name.Text != "":
		f.reduce(1)
		f.kids = append(f.kids, f.trees[0])
		f.trees, f.compared = nil, false
		m.want, m.mayNot = true, true
		m.i++
	case len(m.frames) > 1:
		return m.wrong(api.ErrForm, w.At)
	default:
		return false
	}
	return true
}

// at is what At should tell.
func at(l []api.Tok, i int) (api.Expr, int, api.Fault) {
	m := &machine{words: l, i: i, frames: []*frame{{}}, want: true, mayNot: true}
	for more := true; more; {
		if m.want {
			more = m.wanted()
		} else {
			more = m.behind()
		}
	}
	if m.fault.Code != 0 {
		return api.Expr{}, 0, m.fault
	}
	m.top().reduce(1)
	x := m.top().trees[0]
	depth, count := measure(x)
	if depth > 30 {
		return api.Expr{}, 0, api.Fault{Code: 18, At: l[i].At}
	}
	if count > 300 {
		return api.Expr{}, 0, api.Fault{Code: 3, At: l[i].At}
	}
	return x, m.i, api.Fault{}
}

// measure is a tree's depth, and how many nodes it has.
func measure(x api.Expr) (int, int) {
	depth, count := 0, 1
	for _, k := range x.Kids {
		d, c := measure(k)
		depth, count = max(depth, d), count+c
	}
	return depth + 1, count
}

// tells says that At and Parse tell what the machine does; it is the fault that
// Parse should tell.
func tells(t *testing.T, src string) api.Fault {
	t.Helper()
	l, f := lex.Lex(src)
	if f.Code != 0 {
		t.Fatalf("%.300q: %v", src, f)
	}
	want, end, fault := at(l, 0)
	x, i, f := At(l, 0)
	if f != fault || i != end || !equal(x, want) {
		t.Fatalf("%.300q: at: %s, %d, %v; asked for %s, %d, %v", src, say(x), i, f, say(want), end, fault)
	}
	if fault.Code == 0 && end != len(l)-1 {
		want, fault = api.Expr{}, api.Fault{Code: 8, At: l[end].At}
	}
	x, f = Parse(src)
	if f != fault || !equal(x, want) || Right(x) != (fault.Code == 0) {
		t.Fatalf("%.300q: %s, %v; asked for %s, %v", src, say(x), f, say(want), fault)
	}
	return fault
}

// P13.1, P13.2, P13.4: all sources of up to five of some words.
func TestShortSources(t *testing.T) {
	pool := []string{"a", "len", "nvl", "-", "not", "=", "+", "or", "(", ")", ","}
	var grow func(src string, more int)
	grow = func(src string, more int) {
		tells(t, src)
		if more == 0 {
			return
		}
		for _, w := range pool {
			grow(src+" "+w, more-1)
		}
	}
	grow("", 5)
}

// drawn is a text of chance with at most that depth.
func drawn(r *rand.Rand, deep int) string {
	level := binaries()[r.Intn(5)]
	kinds := r.Intn(12)
	if deep == 0 {
		kinds = 0
	}
	kid := func() string { return drawn(r, deep-1) }
	switch kinds {
	case 0, 1:
		return []string{"a", "b", "len", "0", "12", "'x'", "'('", "true", "false", "null"}[r.Intn(10)]
	case 2:
		return "(" + kid() + ")"
	case 3:
		return "-" + kid()
	case 4:
		return "not " + kid()
	case 5:
		return []string{"len", "str", "num", "isnull"}[r.Intn(4)] + "(" + kid() + ")"
	case 6:
		return []string{"nvl", "left", "right"}[r.Intn(3)] + "(" + kid() + ", " + kid() + ")"
	case 7:
		return "if(" + kid() + "," + kid() + "," + kid() + ")"
	}
	return kid() + " " + level[r.Intn(len(level))] + " " + kid()
}

// pieces are words, some of them more often.
func pieces() []string {
	return strings.Fields("a b len nvl if foo 1 2 'x' '+' true null ( ( ( ) ) ) , , - - - not not or and = < >= + & * % ; : int select back")
}

// P13.1, P13.2, P13.4: of words by chance, and of texts that are right, but for a word or two.
func TestChance(t *testing.T) {
	r := rand.New(rand.NewSource(13))
	seen := map[api.Errno]int{}
	for i := range 60000 {
		var l []string
		if i%3 == 0 {
			for range r.Intn(14) {
				l = append(l, pieces()[r.Intn(len(pieces()))])
			}
		} else {
			src := drawn(r, 1+r.Intn(6))
			w := words(t, src)
			for j := range len(w) - 1 {
				l = append(l, src[w[j].At:w[j+1].At])
			}
			for range r.Intn(3) {
				j, one := r.Intn(len(l)+1), pieces()[r.Intn(len(pieces()))]
				if r.Intn(2) == 0 || j == len(l) {
					l = slices.Insert(l, j, one)
				} else if r.Intn(2) == 0 {
					l[j] = one
				} else {
					l = slices.Delete(l, j, j+1)
				}
			}
		}
		if src := strings.Join(l, " "); len(src) <= 4000 {
			seen[tells(t, src).Code]++
		}
	}
	for _, code := range []api.Errno{0, 8, 9} {
		if seen[code] < 300 {
			t.Errorf("error %d comes up %d times", code, seen[code])
		}
	}
}

// P13.1: of words that nest, so that some nest too deep.
func TestChanceOfDeep(t *testing.T) {
	r := rand.New(rand.NewSource(14))
	openers := []string{"(", "(", "(", "(", "-", "-", "not ", "len(", "nvl(1,", "if(a,b ,", "1 + (", "a and ", "1 * ", "a = ", "(1) - ", "-a + ", "not a or ", "len(-b) * "}
	seen := map[api.Errno]int{}
	for range 10000 {
		src, n := "", 25+r.Intn(40)
		for range n {
			src += openers[r.Intn(len(openers))]
		}
		src += drawn(r, 2)
		m := &machine{words: words(t, src), frames: []*frame{{}}, want: true, mayNot: true}
		for more := true; more; {
			if m.want {
				more = m.wanted()
			} else {
				more = m.behind()
			}
		}
		for i := len(m.frames) - 1 - r.Intn(2)*r.Intn(2); i > 0; i-- {
			src += strings.Repeat(", c", max(0, functions()[m.frames[i].name.Text]-len(m.frames[i].kids)-1)) + ")"
		}
		seen[tells(t, src).Code]++
	}
	for _, code := range []api.Errno{0, 8, 18} {
		if seen[code] < 100 {
			t.Errorf("error %d comes up %d times", code, seen[code])
		}
	}
}

// P13.1: of all places of a list.
func TestChanceOfPlaces(t *testing.T) {
	r := rand.New(rand.NewSource(15))
	for range 3000 {
		l := words(t, drawn(r, 4)+" , "+drawn(r, 3)+" ; "+drawn(r, 3))
		for range r.Intn(3) {
			l = l[:len(l)-1] // even without an end
		}
		for i := -1; i <= len(l); i++ {
			want, end, fault := at(l, i)
			x, j, f := At(l, i)
			if f != fault || j != end || !equal(x, want) {
				t.Fatalf("%v at %d: %s, %d, %v; asked for %s, %d, %v", l, i, say(x), j, f, say(want), end, fault)
			}
		}
	}
}
