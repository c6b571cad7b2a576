package route

import (
	"cmp"
	"math"
	"math/rand"
	"slices"
	"testing"

	"omnibus/api"
)

// checkSpread holds what Spread tells against these lines.
func checkSpread(t *testing.T, l []api.Route, bus int, f api.Frame, want ...api.Line) {
	t.Helper()
	if got, e := Spread(l, bus, f); e != api.OK || !sameLines(got, want) {
		t.Errorf("Spread(%+v, %d, %v): %v %d, want %v", l, bus, f, got, e, want)
	}
}

// checkNoSpread: Spread tells this error, and nothing else, in whichever order the
// routes stand.
func checkNoSpread(t *testing.T, l []api.Route, bus int, f api.Frame, want api.Errno) {
	t.Helper()
	back := slices.Clone(l)
	slices.Reverse(back)
	for _, l := range [][]api.Route{l, back} {
		if got, e := Spread(l, bus, f); e != want || got != nil {
			t.Errorf("Spread(%+v, %d, %v): %d lines, %d, want none, %d", l, bus, f, len(got), e, want)
		}
	}
}

func TestSpreadWrong(t *testing.T) {
	l := list(via(0, 1, 0), via(1, 0, 0))
	for _, w := range wrongFrames {
		checkNoSpread(t, nil, 0, w.f, w.e)
		checkNoSpread(t, l, 0, w.f, w.e)
		checkNoSpread(t, l, -1, w.f, w.e)
		checkNoSpread(t, many(21), 0, w.f, api.ErrMany)
		checkNoSpread(t, list(via(1, 1, 0)), 0, w.f, api.ErrRange)
	}
	for _, bus := range []int{-1, 4, math.MinInt, math.MaxInt} {
		checkNoSpread(t, nil, bus, short(5), api.ErrRange)
		checkNoSpread(t, l, bus, short(5), api.ErrRange)
		checkNoSpread(t, many(21), bus, short(5), api.ErrMany)
	}
	for bus := range 4 {
		checkSpread(t, nil, bus, short(5))
		checkSpread(t, list(), bus, long(5))
	}
}

// TestSpreadKnown: lines that are written out.
func TestSpreadKnown(t *testing.T) {
	f := short(5, 1, 2)
	on := func(bus, id int) api.Line { return line(0, bus, short(id, 1, 2)) }
	tests := []struct {
		l    []api.Route
		bus  int
		want []api.Line
	}{
		{list(via(0, 1, 0)), 0, []api.Line{on(1, 5)}},
		{list(via(0, 1, 1)), 0, []api.Line{on(1, 6)}},
		{list(via(0, 1, 1)), 1, nil},
		{list(via(0, 1, 1)), 3, nil},
		// one behind the other, in both orders
		{list(via(0, 1, 1), via(1, 2, 10)), 0, []api.Line{on(1, 6), on(2, 16)}},
		{list(via(1, 2, 10), via(0, 1, 1)), 0, []api.Line{on(1, 6), on(2, 16)}},
		{list(via(1, 2, 10), via(0, 1, 1)), 1, []api.Line{on(2, 15)}},
		{list(via(3, 2, -1), via(2, 1, -1), via(1, 0, -1)), 3, []api.Line{on(0, 2), on(1, 3), on(2, 4)}},
		// side by side
		{list(via(0, 2, 1), via(0, 1, 2)), 0, []api.Line{on(1, 7), on(2, 6)}},
		{list(via(0, 1, 3), via(0, 1, 2), via(0, 1, -5)), 0, []api.Line{on(1, 0), on(1, 7), on(1, 8)}},
		{list(via(0, 1, 3), via(0, 1, 3), via(0, 1, 3)), 0, []api.Line{on(1, 8)}},
		// two ways to one bus: with the same number, and with another
		{list(via(0, 1, 1), via(0, 2, 2), via(1, 3, 2), via(2, 3, 1)), 0, []api.Line{on(1, 6), on(2, 7), on(3, 8)}},
		{list(via(0, 1, 1), via(0, 2, 2), via(1, 3, 2), via(2, 3, 0)), 0, []api.Line{on(1, 6), on(2, 7), on(3, 7), on(3, 8)}},
		// over a bus twice, and over the one that it came from
		{list(via(0, 1, 1), only(via(1, 0, 1), 6)), 0, []api.Line{on(0, 7), on(1, 6), on(1, 8)}},
		// what is let in by its new number alone
		{list(via(0, 1, 1), only(via(1, 2, 0), 5)), 0, []api.Line{on(1, 6)}},
		{list(via(0, 1, 1), only(via(1, 2, 0), 6)), 0, []api.Line{on(1, 6), on(2, 6)}},
		// without times
		{list(every(via(0, 1, 1), 1000000), every(via(0, 1, 2), 1000000), every(via(1, 2, 0), 1000000)), 0,
			[]api.Line{on(1, 6), on(1, 7), on(2, 6), on(2, 7)}},
		// numbers that are too great, too small and just within
		{list(via(0, 1, 2043)), 0, nil},
		{list(via(0, 1, 2042)), 0, []api.Line{on(1, 2047)}},
		{list(via(0, 1, -6)), 0, nil},
		{list(via(0, 1, -5)), 0, []api.Line{on(1, 0)}},
		{list(via(0, 1, 2042), via(1, 2, 1), via(1, 3, -2047)), 0, []api.Line{on(1, 2047), on(3, 0)}},
		// of the other kind
		{list(longVia(0, 1, 0), via(0, 2, 0), longVia(2, 3, 0)), 0, []api.Line{on(2, 5)}},
	}
	for _, x := range tests {
		checkSpread(t, x.l, x.bus, f, x.want...)
	}
}

// TestSpreadKinds: a frame stays what it is but for its number.
func TestSpreadKinds(t *testing.T) {
	l := list(via(0, 1, 1), longVia(0, 1, 2), via(1, 2, 1), longVia(1, 3, 2))
	checkSpread(t, l, 0, short(5), line(0, 1, short(6)), line(0, 2, short(7)))
	checkSpread(t, l, 0, long(5), line(0, 1, long(7)), line(0, 3, long(9)))
	checkSpread(t, l, 0, long(536870909), line(0, 1, long(536870911)))
	checkSpread(t, l, 0, long(536870910))
	for _, f := range []api.Frame{
		{ID: 5, Remote: true, Size: 8},
		{ID: 5, Fast: true, Data: make([]byte, 64)},
		{ID: 5, Fast: true, Data: []byte{1, 2, 3, 4, 5, 6, 7, 8, 9, 10, 11, 12}},
	} {
		first, second := f, f
		first.ID, second.ID = 6, 7
		checkSpread(t, l, 0, f, line(0, 1, first), line(0, 2, second))
	}
}

// TestSpreadRound: what goes round, and what nearly does.
func TestSpreadRound(t *testing.T) {
	for _, x := range []struct {
		l   []api.Route
		bus int
		id  int
	}{
		{list(via(0, 1, 0), via(1, 0, 0)), 0, 5},
		{list(via(0, 1, 0), via(1, 0, 0)), 1, 5},
		{list(via(0, 1, 7), via(1, 0, -7)), 0, 5},
		{list(via(0, 1, 7), via(1, 0, -7)), 0, 2040},
		{list(via(0, 1, 1), via(1, 2, 1), via(2, 0, -2)), 0, 5},
		{list(via(0, 1, 1), via(1, 2, 1), via(2, 3, 1), via(3, 0, -3)), 2, 5},
		// it doesn't go round over the bus where the first one is
		{list(via(3, 0, 0), via(0, 1, 1), via(1, 2, 1), via(2, 0, -2)), 3, 5},
		// only when it comes again
		{list(via(0, 1, 1), via(1, 0, 0), only(via(1, 0, -3), 8)), 0, 5},
		// one round among other ways
		{list(via(0, 1, 1), via(0, 2, 1), via(2, 3, 1), only(via(3, 2, -1), 7)), 0, 5},
	} {
		checkNoSpread(t, x.l, x.bus, short(x.id), api.ErrRound)
		for i := range x.l {
			x.l[i].F.Long = true
			if x.l[i].F.Mask != 0 {
				x.l[i].F.Mask = api.MaxLong
			}
		}
		checkNoSpread(t, x.l, x.bus, long(x.id), api.ErrRound)
		checkSpread(t, x.l, x.bus, short(x.id))
	}
	// one that the frame doesn't reach
	checkSpread(t, list(via(0, 1, 0), via(1, 0, 0), via(2, 3, 1)), 2, short(5), line(0, 3, short(6)))
	checkSpread(t, list(via(0, 1, 0), via(2, 3, 0), via(3, 2, 0)), 0, short(5), line(0, 1, short(5)))
	// one that Add ends: by the last number, and by the first
	checkSpread(t, list(via(0, 1, 1), via(1, 0, -1)), 0, short(2047))
	checkSpread(t, list(via(0, 1, -1), via(1, 0, 1)), 0, short(0))
	checkSpread(t, list(via(0, 1, 0), via(1, 0, 2)), 0, short(2044),
		line(0, 0, short(2046)), line(0, 1, short(2044)), line(0, 1, short(2046)))
	// one that a filter ends
	checkSpread(t, list(via(0, 1, 1), only(via(1, 0, -1), 7)), 0, short(5), line(0, 1, short(6)))
	checkSpread(t, list(only(via(0, 1, 0), 5), only(via(1, 0, 1), 5)), 0, short(5), line(0, 0, short(6)), line(0, 1, short(5)))
	// one of another kind
	checkSpread(t, list(via(0, 1, 0), longVia(1, 0, 0)), 0, short(5), line(0, 1, short(5)))
	checkSpread(t, list(longVia(0, 1, 0), via(1, 0, 0)), 0, long(5), line(0, 1, long(5)))
}

// TestSpreadHowMany: as many frames as api.MaxBits are carried on, the first one
// among them, and one more.
func TestSpreadHowMany(t *testing.T) {
	to := list(via(0, 1, 1), via(1, 0, 1))
	if l, e := Spread(to, 0, short(1048, 1)); e != api.OK || len(l) != 999 {
		t.Errorf("1000 frames: %d, %d lines", e, len(l))
	}
	checkNoSpread(t, to, 0, short(1047, 1), api.ErrMany)
	checkNoSpread(t, to, 0, short(0, 1), api.ErrMany)
	longTo := list(longVia(0, 1, 1), longVia(1, 0, 1))
	if l, e := Spread(longTo, 1, long(536870911-999, 1)); e != api.OK || len(l) != 999 {
		t.Errorf("1000 Long frames: %d, %d lines", e, len(l))
	}
	checkNoSpread(t, longTo, 1, long(536870911-1000, 1), api.ErrMany)
	checkNoSpread(t, longTo, 1, long(0, 1), api.ErrMany)
	// two ways to each are no more frames
	twice := append(slices.Clone(to), to...)
	if l, e := Spread(twice, 0, short(1048, 1)); e != api.OK || len(l) != 999 {
		t.Errorf("1000 frames, each come to twice: %d, %d lines", e, len(l))
	}
	checkNoSpread(t, twice, 0, short(1047, 1), api.ErrMany)
	// down, and side by side
	down := list(via(0, 1, -2), via(1, 0, 0), via(0, 2, 0))
	if l, e := Spread(down, 0, short(665)); e != api.OK || len(l) != 997 {
		t.Errorf("998 frames: %d, %d lines", e, len(l))
	}
	checkNoSpread(t, down, 0, short(667), api.ErrMany)
}

// TestSpreadManyAndRound: a round is told even if it lies behind too many.
func TestSpreadManyAndRound(t *testing.T) {
	up := list(via(0, 1, 1), via(1, 0, 0))
	checkNoSpread(t, up, 0, short(5), api.ErrMany)
	for _, id := range []int{6, 7, 500, 1000, 2046, 2047} {
		l := append(slices.Clone(up), only(via(1, 2, 0), id), via(2, 1, 0))
		checkNoSpread(t, l, 0, short(5), api.ErrRound)
	}
	// the round is behind the first one
	l := append(slices.Clone(up), only(via(1, 2, 0), 500), via(2, 1, 0))
	checkNoSpread(t, l, 0, short(499), api.ErrRound)
	checkNoSpread(t, l, 0, short(500), api.ErrMany)
}

// TestSpreadLongRound: rounds of Long frames behind many others.
func TestSpreadLongRound(t *testing.T) {
	up := list(longVia(0, 1, 1), longVia(1, 0, 0))
	for _, id := range []int{1, 1000, 2048, 20000, 40000} {
		l := append(slices.Clone(up), only(longVia(1, 2, 0), id), longVia(2, 1, 0))
		checkNoSpread(t, l, 0, long(0), api.ErrRound)
		checkNoSpread(t, l, 0, long(id), api.ErrMany)
	}
	// whichever way is farther, and wherever it begins
	checkNoSpread(t, append(slices.Clone(up), longVia(0, 2, -1), longVia(2, 0, 1)), 0, long(1<<28), api.ErrRound)
	checkNoSpread(t, append(slices.Clone(up), longVia(0, 2, -1), longVia(2, 0, 0)), 0, long(1<<28), api.ErrRound)
	checkNoSpread(t, append(slices.Clone(up), longVia(0, 2, 1), longVia(2, 0, 1)), 0, long(1<<28), api.ErrMany)
	checkNoSpread(t, append(slices.Clone(up), longVia(0, 2, 1<<28), longVia(2, 0, 1-1<<28)), 0, long(7), api.ErrMany)
	checkNoSpread(t, append(slices.Clone(up), longVia(0, 2, 1<<28), longVia(2, 0, -1<<28)), 0, long(7), api.ErrRound)
}

// second works Spread's answer out another way: it goes as deep as it can, and
// tells a round by coming to where it still is under way.
func second(l []api.Route, bus int, f api.Frame) ([]api.Line, api.Errno) {
	type key struct {
		bus, id int
		long    bool
	}
	top := 2047
	if f.Long {
		top = 536870911
	}
	underWay, done := map[key]bool{}, map[key]bool{}
	round := false
	var out []api.Line
	var walk func(bus int, f api.Frame)
	walk = func(bus int, f api.Frame) {
		at := key{bus, f.ID, f.Long}
		if underWay[at] {
			round = true
		}
		if underWay[at] || done[at] {
			return
		}
		underWay[at] = true
		for _, r := range l {
			same := r.F.Long == f.Long && (r.F.Want^f.ID)&r.F.Mask == 0
			next := f
			next.ID += r.Add
			if same && r.From == bus && next.ID >= 0 && next.ID <= top {
				walk(r.To, next)
			}
		}
		delete(underWay, at)
		done[at] = true
		out = append(out, line(0, bus, f))
	}
	walk(bus, f)
	if round {
		return nil, api.ErrRound
	}
	if len(out) > 1000 {
		return nil, api.ErrMany
	}
	out = out[:len(out)-1] // the first one is done at last
	slices.SortFunc(out, func(a, b api.Line) int {
		return cmp.Or(a.Bus-b.Bus, a.F.ID-b.F.ID)
	})
	return out, api.OK
}

// someRoutes has routes by chance: with little to add, so that many meet, and with
// filters that let in all, every other number, a few or one.
func someRoutes(r *rand.Rand, long bool, near int) []api.Route {
	var l []api.Route
	for range r.Intn(9) {
		from := r.Intn(4)
		x := api.Route{From: from, To: (from + 1 + r.Intn(3)) % 4, Add: r.Intn(9) - 3, Every: r.Intn(3)}
		if r.Intn(5) == 0 {
			x.Add *= 200
		}
		masks := []int{0, 0, 1, 3, 6, 12, 2047}
		x.F = api.Filter{Want: (near + r.Intn(20)) % 2048, Mask: masks[r.Intn(len(masks))], Long: long != (r.Intn(8) == 0)}
		l = append(l, x)
	}
	return l
}

// TestSpreadSecond: many routes by chance, against the second way.
func TestSpreadSecond(t *testing.T) {
	r := rand.New(rand.NewSource(14))
	told := map[api.Errno]int{}
	for range 20000 {
		f := short(r.Intn(2048), byte(r.Intn(256)))
		near := f.ID
		if r.Intn(3) == 0 { // so high that there is an end to all ways up
			f.Long = true
			f.ID = 536870911 - r.Intn(3000)
			near = f.ID % 2048
		}
		l, bus := someRoutes(r, f.Long, near), r.Intn(4)
		if f.Long {
			for i := range l {
				l[i].Add = max(l[i].Add, 0)
			}
		}
		want, wantE := second(l, bus, f)
		got, e := Spread(l, bus, f)
		if e != wantE || !sameLines(got, want) {
			t.Fatalf("Spread(%+v, %d, %v): %v %d, want %v %d", l, bus, f, got, e, want, wantE)
		}
		told[e]++
	}
	for _, e := range []api.Errno{api.OK, api.ErrRound, api.ErrMany} {
		if told[e] < 100 {
			t.Errorf("too few of %d: %v", e, told)
		}
	}
}

// stepped has what comes of f when each frame goes over its bus, one after the
// other, through a gateway that forgets when it let one through.
func stepped(t *testing.T, l []api.Route, bus int, f api.Frame) []api.Line {
	todo := []api.Line{line(0, bus, f)}
	var out []api.Line
	for len(todo) > 0 {
		at := todo[0]
		todo = todo[1:]
		g, _ := New(l)
		_, lines, e := Step(g, 0, at.Bus, at.F)
		if e != api.OK {
			t.Fatalf("Step of %v: %d", at, e)
		}
		for _, x := range lines {
			if !slices.ContainsFunc(out, func(y api.Line) bool { return sameLine(x, y) }) {
				out = append(out, x)
				todo = append(todo, x)
			}
		}
	}
	slices.SortFunc(out, func(a, b api.Line) int { return cmp.Or(a.Bus-b.Bus, a.F.ID-b.F.ID) })
	return out
}

// TestSpreadIsSteps: what Step does, bus after bus and without times, comes to
// what Spread tells.
func TestSpreadIsSteps(t *testing.T) {
	r := rand.New(rand.NewSource(41))
	several := 0
	for range 5000 {
		f := short(r.Intn(2048), byte(r.Intn(256)), 7)
		l, bus := someRoutes(r, false, f.ID), r.Intn(4)
		got, e := Spread(l, bus, f)
		if e != api.OK {
			continue
		}
		if want := stepped(t, l, bus, f); !sameLines(got, want) {
			t.Fatalf("Spread(%+v, %d, %v): %v, want %v", l, bus, f, got, want)
		}
		if len(got) > 3 {
			several++
		}
	}
	if several < 100 {
		t.Errorf("only %d with several frames", several)
	}
}

// TestSpreadOneGateway: a gateway whose routes let all through at any time comes to
// the same with its times, all frames at one.
func TestSpreadOneGateway(t *testing.T) {
	l := list(via(0, 1, 1), via(1, 2, 10), via(0, 2, 11), via(2, 3, -5), via(1, 3, 0))
	g, _ := New(l)
	todo := []api.Line{line(0, 0, short(5))}
	var got []api.Line
	for len(todo) > 0 {
		var lines []api.Line
		g, lines, _ = Step(g, 9, todo[0].Bus, todo[0].F)
		todo = append(todo[1:], lines...)
		for _, x := range lines {
			x.Time = 0
			got = append(got, x)
		}
	}
	slices.SortFunc(got, func(a, b api.Line) int { return cmp.Or(a.Bus-b.Bus, a.F.ID-b.F.ID) })
	got = slices.CompactFunc(got, sameLine)
	checkSpread(t, l, 0, short(5), got...)
	checkSpread(t, l, 0, short(5), line(0, 1, short(6)), line(0, 2, short(16)), line(0, 3, short(6)), line(0, 3, short(11)))
}

// TestSpreadEnds: whatever is handed in, Spread ends, and tells one of its errors.
func TestSpreadEnds(t *testing.T) {
	r := rand.New(rand.NewSource(7))
	for range 80 {
		var l []api.Route
		for range 1 + r.Intn(20) {
			from := r.Intn(4)
			x := longVia(from, (from+1+r.Intn(3))%4, r.Intn(2*api.MaxLong+1)-api.MaxLong)
			if r.Intn(3) == 0 {
				x.F.Want, x.F.Mask = r.Intn(api.MaxLong), 1<<r.Intn(29)
			}
			l = append(l, x)
		}
		got, e := Spread(l, r.Intn(4), long(r.Intn(api.MaxLong)))
		if e != api.OK && e != api.ErrRound && e != api.ErrMany || len(got) >= api.MaxBits {
			t.Errorf("Spread(%+v): %d lines, %d", l, len(got), e)
		}
	}
}
