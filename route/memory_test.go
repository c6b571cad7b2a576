package route

import (
	"fmt"
	"slices"
	"testing"

	"omnibus/api"
	"omnibus/frame"
)

// roomy has what l has, with marked room behind it.
func roomy[T any](l []T, mark T) []T {
	out := append(make([]T, 0, len(l)+3), l...)
	for i := len(l); i < cap(out); i++ {
		out[:cap(out)][i] = mark
	}
	return out
}

// scrawl fills all that l has, and the room behind it.
func scrawl[T any](l []T, mark T) {
	l = l[:cap(l)]
	for i := range l {
		l[i] = mark
	}
}

// whole is all that a gateway and a frame have, what lies behind their lists too,
// as a text.
func whole(g api.Gate, f api.Frame) string {
	return fmt.Sprint(g, g.Routes[:cap(g.Routes)], g.Last[:cap(g.Last)], f, f.Data[:cap(f.Data)])
}

// handed has a gateway and a frame with room behind all their lists.
func handed(g api.Gate, f api.Frame) (api.Gate, api.Frame) {
	g.Routes = roomy(g.Routes, via(3, 2, 77))
	g.Last = roomy(g.Last, 77)
	f.Data = roomy(f.Data, 77)
	return g, f
}

// cases are gateways and frames, right ones and wrong ones.
func cases() []struct {
	g api.Gate
	f api.Frame
} {
	type x = struct {
		g api.Gate
		f api.Frame
	}
	l := list(via(0, 1, 1), via(0, 2, 1), via(0, 1, 1), via(1, 3, 0), via(1, 0, 2041))
	return []x{
		{gate(-1), short(5, 1, 2)},
		{gate(-1, l...), short(5, 1, 2, 3)},
		{gate(7, l...), short(5)},
		{gate(8, l...), short(5, 1, 2)},
		{gate(-2, l...), short(5, 1, 2)},
		{gate(7, many(20)...), short(5, 1, 2, 3, 4, 5, 6, 7, 8)},
		{gate(7, many(21)...), short(5, 1, 2)},
		{api.Gate{Routes: l, Last: []int{1, 2}}, short(5, 1, 2)},
		{gate(-1, l...), short(-1, 1, 2)},
		{gate(-1, l...), short(5, 1, 2, 3, 4, 5, 6, 7, 8, 9)},
		{gate(-1, via(0, 1, 0), via(1, 0, 0)), short(5, 1)},
		{gate(-1, via(0, 1, 1), via(1, 0, 0)), short(5, 1)},
		{gate(-1, via(0, 1, 1), via(1, 0, 1)), short(1100, 1)},
	}
}

// TestHandedIn: no call changes what is handed in, nor the room behind it.
func TestHandedIn(t *testing.T) {
	for i, x := range cases() {
		g, f := handed(x.g, x.f)
		before := whole(g, f)
		Check(g)
		New(g.Routes)
		Step(g, 7, 0, f)
		Step(g, -1, 9, f)
		Spread(g.Routes, 0, f)
		Spread(g.Routes, 9, f)
		if after := whole(g, f); after != before {
			t.Errorf("case %d: %s became %s", i, before, after)
		}
	}
}

// TestAnswersStay: what was answered doesn't change with what was handed in, nor
// what was handed in with the answer.
func TestAnswersStay(t *testing.T) {
	for i, x := range cases() {
		g, f := handed(x.g, x.f)
		made, _ := New(g.Routes)
		out, lines, _ := Step(g, 7, 0, f)
		spread, _ := Spread(g.Routes, 0, f)
		before := fmt.Sprint(made, out, lines, spread)
		scrawl(g.Routes, via(2, 3, 99))
		scrawl(g.Last, 99)
		scrawl(f.Data, 99)
		if after := fmt.Sprint(made, out, lines, spread); after != before {
			t.Errorf("case %d: %s became %s", i, before, after)
		}

		g, f = handed(x.g, x.f)
		made, _ = New(g.Routes)
		out, lines, _ = Step(g, 7, 0, f)
		spread, _ = Spread(g.Routes, 0, f)
		before = whole(g, f)
		for _, y := range []api.Gate{made, out} {
			scrawl(y.Routes, via(2, 3, 99))
			scrawl(y.Last, 99)
		}
		for _, y := range slices.Concat(lines, spread) {
			scrawl(y.F.Data, 99)
		}
		if after := whole(g, f); after != before {
			t.Errorf("case %d: %s became %s with the answer", i, before, after)
		}
	}
}

// TestAnswersApart: no two lines of an answer share their Data, and two answers
// share nothing.
func TestAnswersApart(t *testing.T) {
	f := short(5, 1, 2, 3)
	g := gate(-1, via(0, 1, 0), via(0, 1, 0), via(0, 2, 0), via(1, 3, 0))
	_, stepped, _ := Step(g, 7, 0, f)
	spread, _ := Spread(g.Routes, 0, f)
	for _, l := range [][]api.Line{stepped, spread} {
		if len(l) != 3 {
			t.Fatalf("%d lines: %v", len(l), l)
		}
		for i := range l {
			scrawl(l[i].F.Data, 99)
			for k := range l {
				if (k > i) != frame.Same(l[k].F, f) {
					t.Errorf("with the Data of line %d that of line %d changed: %v", i, k, l)
				}
			}
		}
	}
	a, first, _ := Step(g, 7, 0, f)
	b, other, _ := Step(g, 7, 0, f)
	scrawl(a.Routes, via(2, 3, 99))
	scrawl(a.Last, 99)
	scrawl(first, api.Line{Time: 99})
	if !slices.Equal(b.Routes, g.Routes) || !slices.Equal(b.Last, []int{7, 7, 7, -1}) || !frame.Same(other[0].F, f) {
		t.Errorf("two answers share memory: %+v %v", b, other)
	}
}
