package route

import (
	"math"
	"slices"
	"testing"

	"omnibus/api"
	"omnibus/frame"
)

// short is a short frame with these bytes.
func short(id int, data ...byte) api.Frame { return api.Frame{ID: id, Data: data} }

// long is a Long frame with these bytes.
func long(id int, data ...byte) api.Frame { return api.Frame{ID: id, Long: true, Data: data} }

// via is a route that lets in all short frames.
func via(from, to, add int) api.Route { return api.Route{From: from, To: to, Add: add} }

// longVia is a route that lets in all Long frames.
func longVia(from, to, add int) api.Route {
	return api.Route{From: from, To: to, Add: add, F: api.Filter{Long: true}}
}

// only makes a route let in one number alone.
func only(r api.Route, id int) api.Route {
	r.F.Want, r.F.Mask = id, api.MaxID
	if r.F.Long {
		r.F.Mask = api.MaxLong
	}
	return r
}

// every makes a route let at most one through in so many ticks.
func every(r api.Route, ticks int) api.Route {
	r.Every = ticks
	return r
}

// list is a list of routes, written shortly.
func list(l ...api.Route) []api.Route { return l }

// many has n routes.
func many(n int) []api.Route { return slices.Repeat(list(via(0, 1, 0)), n) }

// gate is a gateway with these routes, each with the same Last.
func gate(last int, l ...api.Route) api.Gate {
	return api.Gate{Routes: l, Last: slices.Repeat([]int{last}, len(l))}
}

// wrongFrames are frames that can't be sent, and chapter 4's errors.
var wrongFrames = []struct {
	f api.Frame
	e api.Errno
}{
	{short(-1), api.ErrRange},
	{short(2048), api.ErrRange},
	{long(-1), api.ErrRange},
	{long(536870912), api.ErrRange},
	{short(math.MinInt), api.ErrRange},
	{long(math.MaxInt), api.ErrRange},
	{api.Frame{ID: 1, Remote: true, Fast: true}, api.ErrForm},
	{api.Frame{ID: 1, Remote: true, Data: []byte{1}}, api.ErrForm},
	{api.Frame{ID: 1, Remote: true, Size: 9}, api.ErrRange},
	{api.Frame{ID: 1, Size: 1}, api.ErrRange},
	{short(1, make([]byte, 9)...), api.ErrMany},
	{api.Frame{ID: 1, Fast: true, Data: make([]byte, 65)}, api.ErrMany},
	{api.Frame{ID: 1, Fast: true, Data: make([]byte, 9)}, api.ErrForm},
}

// checkGate holds Check's error, and Step's as the one that it says first, against
// want; with an error, all else must be zero.
func checkGate(t *testing.T, g api.Gate, want api.Errno) {
	t.Helper()
	if e := Check(g); e != want {
		t.Errorf("Check(%+v): %d, want %d", g, e, want)
	}
	if want == api.OK {
		return
	}
	for _, f := range []api.Frame{short(5, 1), short(-1), short(1, make([]byte, 9)...)} {
		for _, at := range []int{0, -1, api.MaxTime} {
			out, l, e := Step(g, at, at, f)
			if out.Routes != nil || out.Last != nil || l != nil || e != want {
				t.Errorf("Step(%+v, %d, %d, %v): %v %v %d, want none, %d", g, at, at, f, out, l, e, want)
			}
		}
	}
}

// checkRoutes holds New's error, Check's of these routes, and Spread's as the one
// that it says first, against want.
func checkRoutes(t *testing.T, l []api.Route, want api.Errno) {
	t.Helper()
	checkGate(t, gate(-1, l...), want)
	g, e := New(l)
	if e != want {
		t.Errorf("New(%+v): %d, want %d", l, e, want)
	}
	if want == api.OK {
		if !slices.Equal(g.Routes, l) || !slices.Equal(g.Last, slices.Repeat([]int{-1}, len(l))) {
			t.Errorf("New(%+v): %+v", l, g)
		}
		return
	}
	if g.Routes != nil || g.Last != nil {
		t.Errorf("New(%+v) has %+v beside its error", l, g)
	}
	for _, f := range []api.Frame{short(5, 1), short(-1), short(1, make([]byte, 9)...)} {
		for _, bus := range []int{0, -1, api.MaxBuses} {
			if lines, e := Spread(l, bus, f); lines != nil || e != want {
				t.Errorf("Spread(%+v, %d, %v): %v %d, want none, %d", l, bus, f, lines, e, want)
			}
		}
	}
}

func TestHowMany(t *testing.T) {
	checkRoutes(t, nil, api.OK)
	checkRoutes(t, list(), api.OK)
	for _, n := range []int{1, 2, 19, 20} {
		checkRoutes(t, many(n), api.OK)
	}
	for _, n := range []int{21, 22, 40, 1000} {
		checkRoutes(t, many(n), api.ErrMany)
	}
}

func TestHowManyLasts(t *testing.T) {
	for _, n := range []int{0, 1, 2, 19, 20} {
		for _, lasts := range []int{0, 1, max(n-1, 0), n, n + 1, 20, 21, 40} {
			want := api.ErrForm
			if lasts == n {
				want = api.OK
			}
			checkGate(t, api.Gate{Routes: many(n), Last: make([]int, lasts)}, want)
		}
	}
	checkGate(t, api.Gate{Routes: many(21), Last: make([]int, 20)}, api.ErrMany)
	checkGate(t, api.Gate{Routes: many(21)}, api.ErrMany)
}

// TestRouteBounds: each field of a route just within and just without its bounds,
// in the first, the middle and the last route.
func TestRouteBounds(t *testing.T) {
	good := func(r api.Route) []api.Route { return list(r, via(2, 3, 5), r, via(1, 0, -5), r) }
	for _, r := range list(
		via(0, 1, 0), via(0, 3, 0), via(3, 0, 0), via(3, 2, 0), via(1, 2, 0),
		every(via(0, 1, 0), 1), every(via(0, 1, 0), 1000000), every(via(0, 1, 0), 999999),
		via(0, 1, 536870911), via(0, 1, -536870911), longVia(0, 1, 536870911), longVia(0, 1, -536870911),
		only(via(0, 1, 0), 2047), only(longVia(0, 1, 0), 2048), only(longVia(0, 1, 0), 536870911),
	) {
		checkRoutes(t, good(r), api.OK)
	}
	for _, wrong := range wrongRoutes() {
		checkRoutes(t, list(wrong), api.ErrRange)
		checkRoutes(t, list(wrong, via(0, 1, 0), via(1, 2, 0)), api.ErrRange)
		checkRoutes(t, list(via(0, 1, 0), wrong, via(1, 2, 0)), api.ErrRange)
		checkRoutes(t, append(many(19), wrong), api.ErrRange)
	}
}

// wrongRoutes has routes that can't be, each by one thing.
func wrongRoutes() []api.Route {
	l := list(
		via(-1, 1, 0), via(4, 1, 0), via(1, -1, 0), via(1, 4, 0),
		via(math.MinInt, 1, 0), via(math.MaxInt, 1, 0), via(1, math.MinInt, 0), via(1, math.MaxInt, 0),
		via(0, 0, 0), via(1, 1, 0), via(3, 3, 0), longVia(2, 2, 1),
		every(via(0, 1, 0), -1), every(via(0, 1, 0), 1000001), every(via(0, 1, 0), math.MinInt), every(via(0, 1, 0), math.MaxInt),
		via(0, 1, 536870912), via(0, 1, -536870912), via(0, 1, math.MinInt), via(0, 1, math.MaxInt),
		longVia(0, 1, 536870912), longVia(0, 1, -536870912), longVia(0, 1, math.MinInt), longVia(0, 1, math.MaxInt),
	)
	for _, f := range []api.Filter{
		{Want: -1}, {Mask: -1}, {Want: 2048}, {Mask: 2048},
		{Want: -1, Long: true}, {Mask: -1, Long: true}, {Want: 536870912, Long: true}, {Mask: 536870912, Long: true},
		{Want: math.MinInt}, {Mask: math.MaxInt, Long: true},
	} {
		l = append(l, api.Route{From: 0, To: 1, F: f})
	}
	return l
}

func TestLastBounds(t *testing.T) {
	for _, last := range []int{-1, 0, 1, 999999, 1000000} {
		checkGate(t, gate(last, many(3)...), api.OK)
	}
	for _, last := range []int{-2, 1000001, math.MinInt, math.MaxInt} {
		for at := range 3 {
			g := gate(-1, many(3)...)
			g.Last[at] = last
			checkGate(t, g, api.ErrRange)
		}
	}
}

// TestWhichError: too many are told ahead of too few Lasts, and both ahead of what
// is wrong with a route.
func TestWhichError(t *testing.T) {
	for _, wrong := range wrongRoutes() {
		for _, other := range wrongRoutes() {
			checkRoutes(t, list(wrong, other), api.ErrRange)
		}
		checkRoutes(t, append(many(20), wrong), api.ErrMany)
		checkRoutes(t, append(list(wrong), many(20)...), api.ErrMany)
		checkGate(t, api.Gate{Routes: list(wrong)}, api.ErrForm)
		checkGate(t, api.Gate{Routes: list(wrong), Last: []int{-2, -2}}, api.ErrForm)
		checkGate(t, api.Gate{Routes: list(wrong), Last: []int{-2}}, api.ErrRange)
		checkGate(t, api.Gate{Routes: append(many(20), wrong), Last: []int{-2}}, api.ErrMany)
	}
}

// line is a line, written shortly.
func line(time, bus int, f api.Frame) api.Line { return api.Line{Time: time, Bus: bus, F: f} }

func sameLine(a, b api.Line) bool {
	return a.Time == b.Time && a.Bus == b.Bus && frame.Same(a.F, b.F)
}

func sameLines(a, b []api.Line) bool { return slices.EqualFunc(a, b, sameLine) }

// checkStepped holds what Step makes of a gateway against these lines and Lasts.
func checkStepped(t *testing.T, g api.Gate, time, bus int, f api.Frame, lasts []int, want ...api.Line) {
	t.Helper()
	out, l, e := Step(g, time, bus, f)
	if e != api.OK || !sameLines(l, want) || !slices.Equal(out.Last, lasts) || !slices.Equal(out.Routes, g.Routes) {
		t.Errorf("Step(%+v, %d, %d, %v): %+v %v %d, want Last %v, %v", g, time, bus, f, out, l, e, lasts, want)
	}
}

// checkNoStep: Step tells this error, and nothing else.
func checkNoStep(t *testing.T, g api.Gate, time, bus int, f api.Frame, want api.Errno) {
	t.Helper()
	out, l, e := Step(g, time, bus, f)
	if e != want || out.Routes != nil || out.Last != nil || l != nil {
		t.Errorf("Step(%+v, %d, %d, %v): %+v %v %d, want none, %d", g, time, bus, f, out, l, e, want)
	}
}

func TestStepWrong(t *testing.T) {
	g := gate(-1, via(0, 1, 0))
	for _, time := range []int{-1, 1000001, math.MinInt, math.MaxInt} {
		checkNoStep(t, g, time, 0, short(5), api.ErrRange)
	}
	for _, bus := range []int{-1, 4, math.MinInt, math.MaxInt} {
		checkNoStep(t, g, 0, bus, short(5), api.ErrRange)
		checkNoStep(t, gate(5, via(0, 1, 0)), 4, bus, short(5), api.ErrRange)
	}
	for _, time := range []int{0, 1, 999999, 1000000} {
		checkStepped(t, g, time, 0, short(5), []int{time}, line(time, 1, short(5)))
	}
	for bus := range 4 {
		if _, _, e := Step(g, 0, bus, short(5)); e != api.OK {
			t.Errorf("bus %d: %d", bus, e)
		}
	}
	for _, w := range wrongFrames {
		checkNoStep(t, g, 0, 0, w.f, w.e)
		checkNoStep(t, gate(-1), 0, 0, w.f, w.e)
		// a frame's error goes ahead of time's and bus's, and of ErrLate
		checkNoStep(t, g, -1, 0, w.f, w.e)
		checkNoStep(t, g, 0, 4, w.f, w.e)
		checkNoStep(t, gate(5, via(0, 1, 0)), 4, 0, w.f, w.e)
	}
}

// TestStepLate: a Last above time is ErrLate, whether its route carries or not.
func TestStepLate(t *testing.T) {
	for _, r := range list(via(0, 1, 0), via(2, 1, 0), longVia(0, 1, 0), only(via(0, 1, 0), 6), via(0, 1, -6)) {
		for at := range 3 {
			g := gate(-1, many(3)...)
			g.Routes[at], g.Last[at] = r, 10
			checkNoStep(t, g, 9, 0, short(5), api.ErrLate)
			checkNoStep(t, g, 0, 0, short(5), api.ErrLate)
			checkNoStep(t, g, 0, 3, short(5), api.ErrLate)
			for _, time := range []int{10, 11} {
				if _, _, e := Step(g, time, 0, short(5)); e != api.OK {
					t.Errorf("Last 10 at %d: %d", time, e)
				}
			}
		}
	}
	checkNoStep(t, gate(1000000, via(0, 1, 0)), 999999, 0, short(5), api.ErrLate)
	checkStepped(t, gate(1000000, via(0, 1, 0)), 1000000, 0, short(5), []int{1000000}, line(1000000, 1, short(5)))
	checkNoStep(t, gate(1000000, via(0, 1, 0)), 1000001, 0, short(5), api.ErrRange)
	checkNoStep(t, gate(5, via(0, 1, 0)), -1, 0, short(5), api.ErrRange)
}

// TestStepCarries: what one route makes of a frame.
func TestStepCarries(t *testing.T) {
	all := []byte{1, 2, 3}
	tests := []struct {
		r      api.Route
		bus    int
		f      api.Frame
		become int // the number that it becomes; -1: nothing is carried
	}{
		{via(0, 1, 0), 0, short(5, all...), 5},
		{via(0, 1, 0), 1, short(5), -1},
		{via(0, 1, 0), 2, short(5), -1},
		{via(3, 0, 7), 3, short(5, all...), 12},
		{via(0, 1, 0), 0, long(5), -1},
		{longVia(0, 1, 0), 0, short(5), -1},
		{longVia(0, 1, 0), 0, long(5, all...), 5},
		{only(via(0, 1, 3), 5), 0, short(5), 8},
		{only(via(0, 1, 3), 5), 0, short(4), -1},
		{only(via(0, 1, 3), 5), 0, short(8), -1},
		{only(via(0, 1, 3), 5), 0, long(5), -1},
		{api.Route{From: 0, To: 1, F: api.Filter{Want: 7, Mask: 6}}, 0, short(6), 6},
		{api.Route{From: 0, To: 1, F: api.Filter{Want: 7, Mask: 6}}, 0, short(1039), 1039},
		{api.Route{From: 0, To: 1, F: api.Filter{Want: 7, Mask: 6}}, 0, short(5), -1},
		{via(0, 1, 1), 0, short(2046), 2047},
		{via(0, 1, 1), 0, short(2047), -1},
		{via(0, 1, 2047), 0, short(0), 2047},
		{via(0, 1, 2047), 0, short(1), -1},
		{via(0, 1, 2048), 0, short(0), -1},
		{via(0, 1, -1), 0, short(1), 0},
		{via(0, 1, -1), 0, short(0), -1},
		{via(0, 1, -2047), 0, short(2047), 0},
		{via(0, 1, -2047), 0, short(2046), -1},
		{via(0, 1, 536870911), 0, short(0), -1},
		{longVia(0, 1, 1), 0, long(2047), 2048},
		{longVia(0, 1, 1), 0, long(536870910), 536870911},
		{longVia(0, 1, 1), 0, long(536870911), -1},
		{longVia(0, 1, 536870911), 0, long(0), 536870911},
		{longVia(0, 1, 536870911), 0, long(1), -1},
		{longVia(0, 1, 536870911), 0, long(536870911), -1},
		{longVia(0, 1, -536870911), 0, long(536870911), 0},
		{longVia(0, 1, -536870911), 0, long(536870910), -1},
		{longVia(0, 1, -1), 0, long(0), -1},
		{via(2, 1, 1), 2, api.Frame{ID: 5, Remote: true, Size: 8}, 6},
		{via(2, 1, 1), 2, api.Frame{ID: 5, Fast: true, Data: make([]byte, 64)}, 6},
	}
	for _, x := range tests {
		if x.become < 0 {
			checkStepped(t, gate(-1, x.r), 9, x.bus, x.f, []int{-1})
			checkStepped(t, gate(3, x.r), 9, x.bus, x.f, []int{3})
			continue
		}
		f := x.f
		f.ID = x.become
		checkStepped(t, gate(-1, x.r), 9, x.bus, x.f, []int{9}, line(9, x.r.To, f))
		checkStepped(t, gate(3, x.r), 9, x.bus, x.f, []int{9}, line(9, x.r.To, f))
	}
}

// TestStepEvery: when a route lets one through again.
func TestStepEvery(t *testing.T) {
	tests := []struct {
		every, last, time int
		through           bool
	}{
		{0, -1, 0, true}, {0, 0, 0, true}, {0, 5, 5, true}, {0, 5, 6, true}, {0, 1000000, 1000000, true},
		{1, -1, 0, true}, {1, 0, 0, false}, {1, 0, 1, true}, {1, 5, 5, false}, {1, 5, 6, true},
		{2, 0, 1, false}, {2, 0, 2, true}, {2, -1, 0, true}, {2, -1, 1, true},
		{10, 5, 5, false}, {10, 5, 14, false}, {10, 5, 15, true}, {10, 5, 16, true}, {10, -1, 3, true}, {10, -1, 9, true},
		{1000000, -1, 0, true}, {1000000, -1, 999999, true}, {1000000, 0, 999999, false}, {1000000, 0, 1000000, true},
		{1000000, 1, 1000000, false}, {1000000, 1000000, 1000000, false}, {999999, 1, 1000000, true},
	}
	for _, x := range tests {
		g := gate(x.last, every(via(0, 1, 2), x.every))
		if x.through {
			checkStepped(t, g, x.time, 0, short(5, 1), []int{x.time}, line(x.time, 1, short(7, 1)))
		} else {
			checkStepped(t, g, x.time, 0, short(5, 1), []int{x.last})
		}
		checkStepped(t, g, x.time, 2, short(5, 1), []int{x.last})
		checkStepped(t, g, x.time, 0, short(2046, 1), []int{x.last})
	}
}

// TestStepSeveral: each route by itself, in their order.
func TestStepSeveral(t *testing.T) {
	g := api.Gate{
		Routes: list(
			via(0, 3, 1),             // it carries
			every(via(0, 1, 2), 10),  // it is held back
			via(1, 0, 3),             // from another bus
			only(via(0, 2, 4), 6),    // it doesn't let it in
			via(0, 1, 2043),          // too great a number
			longVia(0, 1, 6),         // another kind
			every(via(0, 1, -5), 10), // long enough ago
			via(0, 1, -6),            // too small a number
			via(0, 3, 1),             // the same again
			every(via(0, 1, 7), 10),  // never yet
		),
		Last: []int{20, 11, 12, 13, 14, 15, 10, 16, -1, -1},
	}
	f := short(5, 9, 8)
	checkStepped(t, g, 20, 0, f, []int{20, 11, 12, 13, 14, 15, 20, 16, 20, 20},
		line(20, 3, short(6, 9, 8)), line(20, 1, short(0, 9, 8)), line(20, 3, short(6, 9, 8)), line(20, 1, short(12, 9, 8)))
	checkStepped(t, g, 20, 1, f, []int{20, 11, 20, 13, 14, 15, 10, 16, -1, -1}, line(20, 0, short(8, 9, 8)))
	checkStepped(t, g, 20, 2, f, g.Last)
	checkStepped(t, gate(-1), 20, 2, f, nil)
}

// TestStepAgain: what one step leaves is what the next one goes on with.
func TestStepAgain(t *testing.T) {
	g, _ := New(list(every(via(0, 1, 1), 10), every(via(0, 2, 1), 3)))
	tests := []struct {
		time  int
		lasts []int
		buses []int
	}{
		{0, []int{0, 0}, []int{1, 2}},
		{2, []int{0, 0}, nil},
		{3, []int{0, 3}, []int{2}},
		{3, []int{0, 3}, nil},
		{9, []int{0, 9}, []int{2}},
		{10, []int{10, 9}, []int{1}},
		{19, []int{10, 19}, []int{2}},
		{22, []int{22, 22}, []int{1, 2}},
	}
	for _, x := range tests {
		var want []api.Line
		for _, bus := range x.buses {
			want = append(want, line(x.time, bus, short(6)))
		}
		checkStepped(t, g, x.time, 0, short(5), x.lasts, want...)
		g, _, _ = Step(g, x.time, 0, short(5))
	}
}
