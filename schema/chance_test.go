package schema

import (
	"math/rand"
	"regexp"
	"slices"
	"strings"
	"testing"

	"needlebeam/api"
)

// drawer draws columns, names and sources.
type drawer struct {
	*rand.Rand
}

func newDrawer(seed int64) drawer {
	return drawer{rand.New(rand.NewSource(seed))}
}

// of is one of these.
func (d drawer) of(s string) string {
	l := strings.Fields(s)
	return l[d.Intn(len(l))]
}

// schema has at most so many columns, often as many.
func (d drawer) schema(most int) []api.Col {
	if d.Intn(3) > 0 {
		most = d.Intn(most + 1)
	}
	names := strings.Fields("a b c d e f g h i j k l len str abcdefghijklmnop a_0 x9 ints " + d.of("m n o p q r s t u v w") + "_")
	for i := range 12 {
		names = append(names, d.of("m n o p q r s t u v w")+strings.Repeat("y", i+1))
	}
	d.Shuffle(len(names), func(i, j int) { names[i], names[j] = names[j], names[i] })
	var c []api.Col
	for _, name := range names[:most] {
		c = append(c, api.Col{Name: name, Kind: 1 + d.Intn(3)})
	}
	return c
}

// some are names of columns, in any order.
func (d drawer) some(c []api.Col) []string {
	var names []string
	for _, i := range d.Perm(len(c)) {
		if d.Intn(3) == 0 {
			names = append(names, c[i].Name)
		}
	}
	return names
}

// wrong are columns that may be none.
func (d drawer) wrong(most int) []api.Col {
	c := d.schema(most)
	for i := range c {
		switch d.Intn(30) {
		case 0:
			c[i].Kind = d.Intn(9) - 2
		case 1:
			c[i].Name = d.of("a b int A aB abcdefghijklmnopq text _ 7")
		}
	}
	return c
}

// words are those of a source, mostly of columns.
func (d drawer) words() []string {
	var words []string
	for i := range d.Intn(17) {
		kind := d.of("int text bool")
		if d.Intn(30) == 0 {
			kind = d.of("null a 'int' back 1 , ( ;")
		}
		name := d.of("a b c d len int2 x e f g h i") + d.of("a b 7 _ zz 9a c d e f g h 0 1 2 3 4 5 6")
		if d.Intn(30) == 0 {
			name = d.of("int null 'a' 0 , ; and")
		}
		if i > 0 {
			words = append(words, ",")
		}
		words = append(words, name, kind)
	}
	if len(words) > 0 && d.Intn(4) == 0 {
		at := d.Intn(len(words))
		words[at] = d.of("a int , ; ',' = 5 null :")
	}
	if d.Intn(4) == 0 {
		words = words[:d.Intn(len(words)+1)]
	}
	return words
}

// source is one of these words, and tells where each one stands, and the end.
func (d drawer) source(words []string) (string, []int) {
	var b strings.Builder
	var places []int
	gaps := []string{" ", "\n", "\t", "# a int,\n", "  ", " # '\n "}
	for _, w := range words {
		for range 1 + d.Intn(2) {
			b.WriteString(gaps[d.Intn(len(gaps))])
		}
		places = append(places, b.Len())
		b.WriteString(w)
	}
	b.WriteString([]string{"", " ", "\n", "# the end", "\t#\n"}[d.Intn(5)])
	return b.String(), append(places, b.Len())
}

var (
	aName = regexp.MustCompile(`^[a-z][a-z0-9_]{0,15}$`)
	aKind = regexp.MustCompile(`^(int|text|bool)$`)
	aWord = regexp.MustCompile(`^(add|drop|rename|split|merge|retype|into|to|back|and|or|not|true|false|null|int|text|bool|select|where|from|limit)$`)
)

// isName says whether a text is a column's name.
func isName(s string) bool {
	return aName.MatchString(s) && !aWord.MatchString(s)
}

// meant is what Read should tell of words that stand at these places.
func meant(words []string, places []int) ([]api.Col, api.Fault) {
	if len(words) == 0 {
		return nil, api.Fault{}
	}
	var c []api.Col
	seen := map[string]bool{}
	words = append(slices.Clone(words), "") // the end
	for i, w := range words {
		stands := [...]bool{isName(w), aKind.MatchString(w), w == "," || w == ""}[i%3]
		if !stands {
			return nil, api.Fault{Code: api.ErrForm, At: places[i]}
		}
		if i%3 != 1 {
			continue
		}
		name := words[i-1]
		if seen[name] {
			return nil, api.Fault{Code: api.ErrName, At: places[i-1]}
		}
		seen[name] = true
		if len(seen) > 12 {
			return nil, api.Fault{Code: api.ErrLong, At: places[i-1]}
		}
		c = append(c, api.Col{Name: name, Kind: map[string]int{"int": 1, "text": 2, "bool": 3}[w]})
	}
	return c, api.Fault{}
}

// P17.1
func TestSourcesOfChance(t *testing.T) {
	d := newDrawer(17)
	seen := map[api.Errno]int{}
	for range 40000 {
		words := d.words()
		src, places := d.source(words)
		want, fault := meant(words, places)
		c, f := Read(src)
		if f != fault || !slices.Equal(c, want) {
			t.Fatalf("%q: %v, %v; asked for %v, %v", src, c, f, want, fault)
		}
		if f.Code == api.OK && !Right(c) {
			t.Fatalf("%q: %v is no schema", src, c)
		}
		seen[f.Code]++
	}
	if seen[api.OK] < 2000 || seen[api.ErrForm] < 2000 || seen[api.ErrName] < 1000 || seen[api.ErrLong] < 100 {
		t.Error(seen)
	}
}

// P17.4: what is printed is read; each schema has a print of its own.
func TestPrintsOfChance(t *testing.T) {
	d := newDrawer(18)
	prints := map[string][]api.Col{}
	for range 20000 {
		c := d.schema(12)
		s := Print(c)
		if back, f := Read(s); f != (api.Fault{}) || !Same(c, back) || !Right(c) {
			t.Fatalf("%v: printed %q, read %v, %v", c, s, back, f)
		}
		if other, found := prints[s]; found && !slices.Equal(other, c) {
			t.Fatalf("%v, %v: %q", other, c, s)
		}
		prints[s] = c
	}
}

// whole is what is wrong with columns, as the words say it.
func whole(c []api.Col) api.Errno {
	count := map[string]int{}
	for _, col := range c {
		count[col.Name]++
		if !isName(col.Name) || count[col.Name] > 1 {
			return api.ErrName
		}
	}
	for _, col := range c {
		if col.Kind < 1 || col.Kind > 3 {
			return api.ErrType
		}
	}
	if len(c) > 12 {
		return api.ErrLong
	}
	return api.OK
}

// turned is what Turn should tell.
func turned(c []api.Col, take []string, give []api.Col) ([]api.Col, api.Errno) {
	if whole(c) != api.OK {
		return nil, api.ErrArg
	}
	left := map[string]int{}
	for _, col := range c {
		left[col.Name] = 1
	}
	for _, name := range take {
		left[name]--
		if left[name] < 0 {
			return nil, api.ErrName
		}
	}
	var l []api.Col
	for _, col := range c {
		if left[col.Name] == 1 {
			l = append(l, col)
		}
	}
	l = append(l, give...)
	if e := whole(l); e != api.OK {
		return nil, e
	}
	return l, api.OK
}

// P17.1, P17.2
func TestTurnsOfChance(t *testing.T) {
	d := newDrawer(19)
	seen := map[api.Errno]int{}
	for i := range 40000 {
		c := d.schema(12)
		if i%10 == 0 {
			c = d.wrong(12)
		}
		if Right(c) != (whole(c) == api.OK) {
			t.Fatalf("%v: right %t", c, Right(c))
		}
		take := d.some(c)
		if d.Intn(8) == 0 {
			take = append(take, d.of("a b z int 7 len"))
		}
		give := d.wrong(3 + d.Intn(4))
		want, e := turned(c, take, give)
		out, e1 := Turn(c, take, give)
		if e1 != e || !slices.Equal(out, want) || e == api.OK && !Right(out) {
			t.Fatalf("%v, %q go, %v come: %v, error %d; asked for %v, error %d", c, take, give, out, e1, want, e)
		}
		seen[e]++
	}
	if seen[api.OK] < 1000 || seen[api.ErrArg] < 500 || seen[api.ErrName] < 1000 || seen[api.ErrType] < 500 || seen[api.ErrLong] < 500 {
		t.Error(seen)
	}
}

// P17.4: there and back the same columns stand, those that went behind those
// that stayed.
func TestThereAndBack(t *testing.T) {
	d := newDrawer(20)
	turns := 0
	for range 20000 {
		c, give := d.schema(12), d.schema(4)
		take := d.some(c)
		there, e := Turn(c, take, give)
		if e != api.OK {
			continue
		}
		turns++
		var went []api.Col
		for _, name := range take {
			went = append(went, c[slices.IndexFunc(c, func(col api.Col) bool { return col.Name == name })])
		}
		var came []string
		for _, col := range give {
			came = append(came, col.Name)
		}
		back, e := Turn(there, came, went)
		gone, come := Differ(c, back)
		if e != api.OK || len(back) != len(c) || len(gone) != 0 || len(come) != 0 {
			t.Fatalf("%v, there %v, back %v, error %d", c, there, back, e)
		}
		if stay := len(c) - len(went); !slices.Equal(back[stay:], went) || !slices.Equal(back[:stay], there[:stay]) {
			t.Fatalf("%v, there %v, back %v", c, there, back)
		}
	}
	if turns < 2000 {
		t.Error(turns)
	}
}

// P17.3: lists that are no schemas, too.
func TestListsOfChance(t *testing.T) {
	d := newDrawer(21)
	for range 10000 {
		a, b := d.wrong(8), d.wrong(8)
		if d.Intn(3) == 0 {
			b = slices.Clone(a)
			d.Shuffle(len(b), func(i, j int) { b[i], b[j] = b[j], b[i] })
			b = b[:d.Intn(len(b)+1)]
		}
		var gone, come []api.Col
		var places []int
		for _, col := range a {
			if !slices.Contains(b, col) {
				gone = append(gone, col)
			}
			places = append(places, slices.IndexFunc(b, func(other api.Col) bool { return other.Name == col.Name }))
		}
		for _, col := range b {
			if !slices.Contains(a, col) {
				come = append(come, col)
			}
		}
		g, c := Differ(a, b)
		if !slices.Equal(g, gone) || !slices.Equal(c, come) || !slices.Equal(Order(a, b), places) {
			t.Fatalf("%v, %v: %v, %v, %v; asked for %v, %v, %v", a, b, g, c, Order(a, b), gone, come, places)
		}
		same := len(a) == len(b)
		for i := range min(len(a), len(b)) {
			same = same && a[i] == b[i]
		}
		if Same(a, b) != same {
			t.Fatalf("%v, %v: the same: %t", a, b, !same)
		}
	}
}

// What is handed in stays as it is, one answer is told each time, and what is
// told is new memory.
func TestStays(t *testing.T) {
	d := newDrawer(22)
	for range 2000 {
		c, give := slices.Grow(d.schema(9), 20), slices.Grow(d.schema(3), 20)
		take := slices.Grow(d.some(c), 20)
		c1, give1, take1 := slices.Clone(c), slices.Clone(give), slices.Clone(take)
		out, e := Turn(c, take, give)
		want := slices.Clone(out)
		gone, come := Differ(c, give)
		l := slices.Concat(gone, come)
		places := Order(c, give)
		s := Print(c)
		read, _ := Read(s)
		for _, told := range [][]api.Col{out, gone, come, read} {
			for i := range told {
				told[i] = api.Col{Name: "spoilt"}
			}
		}
		spoilt := slices.Clone(places)
		for i := range places {
			places[i] = -7
		}
		if !slices.Equal(c, c1) || !slices.Equal(give, give1) || !slices.Equal(take, take1) {
			t.Fatalf("%v, %q, %v: now %v, %q, %v", c1, take1, give1, c, take, give)
		}
		again, e1 := Turn(c, take, give)
		gone, come = Differ(c, give)
		read, _ = Read(s)
		if e != e1 || !slices.Equal(again, want) || !slices.Equal(slices.Concat(gone, come), l) || !slices.Equal(Order(c, give), spoilt) || Print(c) != s || !slices.Equal(read, c) {
			t.Fatalf("%v, %q, %v: told otherwise", c, take, give)
		}
	}
}
