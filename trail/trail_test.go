package trail

import (
	"math"
	"math/rand"
	"slices"
	"testing"

	"needlebeam/api"
)

// of makes a trail of texts, with a mark wherever one is "|".
func of(t *testing.T, things ...string) *Trail[string] {
	t.Helper()
	x := New[string]()
	for _, s := range things {
		if s == "|" {
			x.Mark()
		} else if e := x.Add(s); e != api.OK {
			t.Fatal(s, e)
		}
	}
	return x
}

// stand fails if there aren't so many things and marks.
func stand(t *testing.T, x *Trail[string], things, marks int) {
	t.Helper()
	if x.Len() != things || x.Marks() != marks {
		t.Errorf("%d things, %d marks; asked for %d, %d", x.Len(), x.Marks(), things, marks)
	}
}

// P2.1
func TestNew(t *testing.T) {
	x := New[string]()
	if x == nil {
		t.Fatal("no trail")
	}
	stand(t, x, 0, 0)
}

// P2.1
func TestAddAndMark(t *testing.T) {
	x := New[string]()
	if m := x.Mark(); m != 0 {
		t.Error("the first mark:", m)
	}
	x.Add("a")
	if m := x.Mark(); m != 1 {
		t.Error("the second mark:", m)
	}
	if m := x.Mark(); m != 2 {
		t.Error("a mark behind a mark:", m)
	}
	x.Add("b")
	x.Add("a") // the same thing twice is two things
	stand(t, x, 3, 3)
	for mark, want := range [][]string{{"a", "b", "a"}, {"b", "a"}, {"b", "a"}} {
		if l, e := x.Since(mark); !slices.Equal(l, want) || e != api.OK {
			t.Error(mark, l, e)
		}
	}
	stand(t, x, 3, 3)
}

// P2.1
func TestFull(t *testing.T) {
	x := New[int32]()
	for i := range api.MaxTrail {
		if e := x.Add(int32(i)); e != api.OK {
			t.Fatal(i, e)
		}
		if i == api.MaxTrail-2 {
			x.Mark()
		}
	}
	for range 2 {
		if e := x.Add(7); e != api.ErrLong || x.Len() != api.MaxTrail {
			t.Error(e, x.Len())
		}
	}
	if m := x.Mark(); m != 1 {
		t.Error("a full trail takes marks:", m)
	}
	if l, e := x.Cut(0); !slices.Equal(l, []int32{api.MaxTrail - 1}) || e != api.OK {
		t.Error(l, e)
	}
	if e := x.Add(8); e != api.OK {
		t.Error("room again:", e)
	}
	if e := x.Add(9); e != api.ErrLong {
		t.Error("one alone:", e)
	}
}

// P2.2, and the chapter's example.
func TestExample(t *testing.T) {
	x := of(t, "a", "|", "b", "c")
	if l, e := x.Cut(0); !slices.Equal(l, []string{"c", "b"}) || e != api.OK {
		t.Error(l, e)
	}
	stand(t, x, 1, 0)
	x.Mark()
	x.Add("d")
	if l, e := x.Since(0); !slices.Equal(l, []string{"d"}) || e != api.OK {
		t.Error(l, e)
	}
}

// P2.2
func TestCutTakesLaterMarks(t *testing.T) {
	x := of(t, "a", "|", "b", "|", "c", "|", "d")
	if l, e := x.Cut(1); !slices.Equal(l, []string{"d", "c"}) || e != api.OK {
		t.Error(l, e)
	}
	stand(t, x, 2, 1)
	for _, mark := range []int{1, 2} {
		if l, e := x.Since(mark); l != nil || e != api.ErrArg {
			t.Error(mark, "is over:", l, e)
		}
	}
	if m := x.Mark(); m != 1 {
		t.Error("the number comes again:", m)
	}
	if l, e := x.Cut(0); !slices.Equal(l, []string{"b"}) || e != api.OK {
		t.Error(l, e)
	}
	stand(t, x, 1, 0)
}

// P2.2
func TestForgetKeepsThings(t *testing.T) {
	x := of(t, "a", "|", "b", "|", "c", "|", "d")
	if e := x.Forget(1); e != api.OK {
		t.Error(e)
	}
	stand(t, x, 4, 1)
	if l, e := x.Since(0); !slices.Equal(l, []string{"b", "c", "d"}) || e != api.OK {
		t.Error(l, e)
	}
	for _, mark := range []int{1, 2} {
		if e := x.Forget(mark); e != api.ErrArg {
			t.Error(mark, e)
		}
	}
	if m := x.Mark(); m != 1 {
		t.Error(m)
	}
	if l, e := x.Cut(1); len(l) != 0 || e != api.OK {
		t.Error("nothing is behind the new mark:", l, e)
	}
	if e := x.Forget(0); e != api.OK {
		t.Error(e)
	}
	stand(t, x, 4, 0)
}

// P2.2
func TestNoMark(t *testing.T) {
	for _, x := range []*Trail[string]{New[string](), of(t, "a", "|", "b"), of(t, "a")} {
		things, marks := x.Len(), x.Marks()
		for _, mark := range []int{-1, marks, marks + 1, math.MaxInt, math.MinInt} {
			if l, e := x.Since(mark); l != nil || e != api.ErrArg {
				t.Error("since", mark, l, e)
			}
			if l, e := x.Cut(mark); l != nil || e != api.ErrArg {
				t.Error("cut", mark, l, e)
			}
			if e := x.Forget(mark); e != api.ErrArg {
				t.Error("forget", mark, e)
			}
			stand(t, x, things, marks)
		}
	}
}

// P2.3
func TestNested(t *testing.T) {
	inside, atOnce := of(t, "a", "|", "b", "|", "c", "d"), of(t, "a", "|", "b", "|", "c", "d")
	first, _ := inside.Cut(1)
	second, _ := inside.Cut(0)
	all, e := atOnce.Cut(0)
	if !slices.Equal(slices.Concat(first, second), all) || len(all) != 3 || e != api.OK {
		t.Error(first, second, all, e)
	}
	stand(t, inside, 1, 0)
	stand(t, atOnce, 1, 0)
}

// R4: what is told is the caller's.
func TestToldIsNew(t *testing.T) {
	x := of(t, "|", "a", "b")
	l, _ := x.Since(0)
	l[0], l[1] = "x", "y"
	_ = append(l[:0], "z")
	again, _ := x.Since(0)
	if !slices.Equal(again, []string{"a", "b"}) {
		t.Error(again)
	}
	gone, _ := x.Cut(0)
	x.Mark()
	x.Add("c")
	x.Add("d")
	if !slices.Equal(gone, []string{"b", "a"}) || !slices.Equal(again, []string{"a", "b"}) {
		t.Error("what was told has changed:", gone, again)
	}
	gone[0], gone[1] = "x", "y"
	if l, _ := x.Since(0); !slices.Equal(l, []string{"c", "d"}) {
		t.Error(l)
	}
}

// What has gone isn't kept.
func TestCutLetsGo(t *testing.T) {
	x := of(t, "a", "|", "b", "c")
	x.Cut(0)
	for _, s := range x.things[:3][1:] {
		if s != "" {
			t.Error(s)
		}
	}
}

// What the chapter says of a nil trail.
func TestNil(t *testing.T) {
	var x *Trail[string]
	if e := x.Add("a"); e != api.ErrNil {
		t.Error(e)
	}
	if m := x.Mark(); m != -1 {
		t.Error(m)
	}
	stand(t, x, 0, 0)
	for _, mark := range []int{-1, 0, math.MaxInt} {
		if l, e := x.Since(mark); l != nil || e != api.ErrNil {
			t.Error(l, e)
		}
		if l, e := x.Cut(mark); l != nil || e != api.ErrNil {
			t.Error(l, e)
		}
		if e := x.Forget(mark); e != api.ErrNil {
			t.Error(e)
		}
	}
}

// A trail that New didn't make is one without things.
func TestZero(t *testing.T) {
	var x Trail[string]
	stand(t, &x, 0, 0)
	if m := x.Mark(); m != 0 {
		t.Error(m)
	}
	x.Add("a")
	if l, e := x.Cut(0); !slices.Equal(l, []string{"a"}) || e != api.OK {
		t.Error(l, e)
	}
}

// model is a trail told plainly: a mark is the things that stood when it was made.
type model struct {
	things []int
	marks  [][]int
}

func (m *model) since(mark int) ([]int, api.Errno) {
	if mark < 0 || mark >= len(m.marks) {
		return nil, api.ErrArg
	}
	return slices.Clone(m.things[len(m.marks[mark]):]), api.OK
}

func (m *model) cut(mark int) ([]int, api.Errno) {
	l, e := m.since(mark)
	if e == api.OK {
		slices.Reverse(l)
		m.things = slices.Clone(m.marks[mark])
		m.marks = m.marks[:mark]
	}
	return l, e
}

// P2.1, P2.2, P2.3: against the model.
func TestModel(t *testing.T) {
	draw := rand.New(rand.NewSource(2))
	for range 200 {
		x, m := New[int](), &model{}
		for i := range 100 {
			mark := draw.Intn(len(m.marks)+3) - 1
			switch n := draw.Intn(12); {
			case n < 5:
				x.Add(i)
				m.things = append(m.things, i)
			case n < 9:
				if got := x.Mark(); got != len(m.marks) {
					t.Fatal("mark", got, len(m.marks))
				}
				m.marks = append(m.marks, slices.Clone(m.things))
			case n < 10:
				since, _ := x.Since(mark)
				slices.Reverse(since)
				l, e := x.Cut(mark)
				want, f := m.cut(mark)
				if !slices.Equal(l, want) || e != f || !slices.Equal(since, l) {
					t.Fatal("cut", mark, l, e, want, f)
				}
			case n < 11:
				e := x.Forget(mark)
				if bad := mark < 0 || mark >= len(m.marks); bad != (e == api.ErrArg) {
					t.Fatal("forget", mark, e)
				} else if !bad {
					m.marks = m.marks[:mark]
				}
			}
			l, e := x.Since(mark)
			want, f := m.since(mark)
			if !slices.Equal(l, want) || e != f || x.Len() != len(m.things) || x.Marks() != len(m.marks) {
				t.Fatal("since", mark, l, e, want, f)
			}
		}
	}
}
