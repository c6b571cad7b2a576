package bus

import (
	"math"
	"slices"
	"testing"

	"omnibus/api"
	"omnibus/frame"
)

// puts, passes, spoils, rests and takes are happenings, written shortly.
func puts(node int, f api.Frame) api.Happening {
	return api.Happening{Kind: api.Queue, Node: node, F: f}
}

func takes(node int) api.Happening { return api.Happening{Kind: api.Take, Node: node} }

var (
	passes = api.Happening{Kind: api.Go}
	spoils = api.Happening{Kind: api.Spoil}
	rests  = api.Happening{Kind: api.Rest}
)

// lists is what each happening told, written shortly.
func lists(l ...[]api.Frame) [][]api.Frame { return l }

// runs holds what Run answers against what it should.
func runs(t *testing.T, l []api.Node, s []api.Happening, want []api.Node, told ...[]api.Frame) {
	t.Helper()
	out, got, at, e := Run(l, s)
	if e != api.OK || at != 0 || text(out) != text(want) || text(got) != text(told) {
		t.Errorf("Run(%+v, %+v):\n%+v %+v %d %d, want\n%+v %+v", l, s, out, got, at, e, want, told)
	}
}

// stops holds at which happening Run stops, and why; all else must be zero.
func stops(t *testing.T, l []api.Node, s []api.Happening, at int, want api.Errno) {
	t.Helper()
	out, told, n, e := Run(l, s)
	if out != nil || told != nil || n != at || e != want {
		t.Errorf("Run(%+v, %+v): %+v %+v %d %d, want %d at %d", l, s, out, told, n, e, want, at)
	}
}

// TestNothingHappens: no happening, and none that changes anything.
func TestNothingHappens(t *testing.T) {
	runs(t, nil, nil, nil)
	runs(t, nil, script(), nil)
	for n := range api.MaxNodes + 1 {
		runs(t, right(n), nil, right(n))
		runs(t, right(n), script(), right(n))
	}
	runs(t, nodes(has()), script(passes, spoils, rests, takes(0)), nodes(has()), nil, nil, nil, nil)
}

// TestSteps: as many happenings as there may be, and one more.
func TestSteps(t *testing.T) {
	l := nodes(hears(allShort), has())
	for _, n := range []int{1, 99, 100} {
		runs(t, l, slices.Repeat(script(rests), n), l, make([][]api.Frame, n)...)
	}
	for _, n := range []int{101, 102, 10000} {
		stops(t, l, slices.Repeat(script(rests), n), 0, api.ErrMany)
		stops(t, l, make([]api.Happening, n), 0, api.ErrMany)
		stops(t, nil, slices.Repeat(script(passes), n), 0, api.ErrMany)
	}
	stops(t, l, append(slices.Repeat(script(rests), 99), takes(2)), 99, api.ErrWho)

	// All of them are done: 50 frames go, of which the last 16 are there yet.
	var s []api.Happening
	var told [][]api.Frame
	for i := range 50 {
		f := short(i, byte(i))
		s = append(s, puts(1, f), passes)
		told = append(told, nil, frames(f))
	}
	var last []api.Frame
	for i := 34; i < 50; i++ {
		last = append(last, short(i, byte(i)))
	}
	runs(t, l, s, nodes(having(hears(allShort), last...), has()), told...)
}

// TestQueue: a frame is put behind those whose names don't come behind its.
func TestQueue(t *testing.T) {
	l := nodes(has(), has(short(3), short(5, 1)))
	s := script(puts(1, short(5, 2)), puts(1, short(4)), puts(1, remote(5, 3)), puts(0, long(9, 7)), puts(1, short(5, 3)))
	want := nodes(has(long(9, 7)), has(short(3), short(4), short(5, 1), short(5, 2), short(5, 3), remote(5, 3)))
	runs(t, l, s, want, nil, nil, nil, nil, nil)

	// One that is Off may have it put, too.
	runs(t, nodes(with(has(), off)), script(puts(0, short(5))), nodes(with(has(short(5)), off)), nil)

	fifteen, full := has(numbered(15)...), has(numbered(16)...)
	runs(t, nodes(fifteen), script(puts(0, short(16, 15))), nodes(full), nil)
	stops(t, nodes(full), script(puts(0, short(0))), 0, api.ErrFull)
	stops(t, nodes(fifteen), script(rests, puts(0, short(0)), puts(0, short(0))), 2, api.ErrFull)
	runs(t, nodes(full, has()), script(passes, puts(0, short(17))), nodes(has(append(numbered(16)[1:], short(17))...), has()), frames(short(1, 0)), nil)
	for _, x := range wrongFrames {
		stops(t, nodes(has()), script(puts(0, x.f)), 0, x.e)
		stops(t, nodes(has(), full), script(rests, puts(1, x.f), puts(0, x.f)), 1, x.e) // ahead of ErrFull
		stops(t, nodes(has()), script(puts(1, x.f)), 0, api.ErrWho)
		stops(t, nodes(has()), script(api.Happening{Kind: 6, F: x.f}), 0, api.ErrWho)
		// Nothing but Queue asks for F.
		for _, kind := range []int{api.Go, api.Spoil, api.Rest, api.Take} {
			runs(t, nodes(has()), script(api.Happening{Kind: kind, F: x.f, N: -1}), nodes(has()), nil)
		}
	}
}

// TestSends: Go and Spoil tell the frame, if it was sent well, and nothing else.
func TestSends(t *testing.T) {
	l := nodes(has(short(5, 1), short(7)), listening(has(short(6, 2))))
	want := nodes(has(), with(having(listening(has()), short(5, 1), short(7)), api.Health{}))
	runs(t, l, script(passes, passes, passes, passes), want, frames(short(5, 1)), frames(short(6, 2)), frames(short(7)), nil)

	bad := nodes(with(l[0], api.Health{Sent: 16}), with(l[1], api.Health{Got: 2}))
	runs(t, l, script(spoils, spoils), bad, nil, nil)
	well := nodes(with(has(short(7)), api.Health{Sent: 15}), with(having(l[1], short(5, 1)), api.Health{Got: 1}))
	runs(t, l, script(spoils, spoils, passes), well, nil, nil, frames(short(5, 1)))

	// The frame may be one all of whose fields are zero: told is that it went.
	runs(t, nodes(has(api.Frame{}), has()), script(passes, passes), nodes(has(), has()), frames(api.Frame{}), nil)
	runs(t, nodes(has(api.Frame{})), script(passes), nodes(with(has(api.Frame{}), api.Health{Sent: 8})), nil)

	stops(t, nodes(has(short(5)), has(short(5))), script(passes), 0, api.ErrTwice)
	stops(t, nodes(has(short(5)), has(short(5))), script(spoils), 0, api.ErrTwice)
	stops(t, nodes(has(short(4), short(5)), has(short(5))), script(rests, passes, spoils), 2, api.ErrTwice)
}

// TestTake: told is what came, once.
func TestTake(t *testing.T) {
	full := numbered(16)
	l := nodes(having(has(short(9)), full...), hears(allShort))
	runs(t, l, script(takes(1)), l, nil)
	runs(t, l, script(takes(0)), nodes(has(short(9)), hears(allShort)), full)
	runs(t, l, script(takes(0), takes(0)), nodes(has(short(9)), hears(allShort)), full, nil)
	runs(t, l, script(passes, takes(1), takes(1), takes(0)), nodes(has(), hears(allShort)), frames(short(9)), frames(short(9)), nil, full)
	// One that is Off has yet what came ahead of that.
	runs(t, nodes(with(l[0], off)), script(takes(0)), nodes(with(has(short(9)), off)), full)
	// What comes behind it is at the beginning again.
	two := nodes(has(short(1), short(2)), having(hears(allShort), full...))
	runs(t, two, script(passes, takes(1), passes), nodes(has(), having(hears(allShort), short(2))),
		frames(short(1)), append(numbered(16)[1:], short(1)), frames(short(2)))
}

// TestRest: one that is Off gets well by it, all others stay as they are.
func TestRest(t *testing.T) {
	others := nodes(with(has(short(5)), api.Health{Sent: 255, Got: 255}), with(has(), api.Health{Sent: 1}))
	silent := with(having(listening(has(short(6))), short(9)), off)
	l := append(slices.Clone(others), silent)
	rested := with(silent, api.Health{Sent: 256, Rest: 1})
	runs(t, l, script(rests), append(slices.Clone(others), rested), nil)
	rested = with(silent, api.Health{Sent: 256, Rest: 100})
	hundred := append(slices.Clone(others), rested)
	runs(t, l, slices.Repeat(script(rests), 100), hundred, make([][]api.Frame, 100)...)
	rested = with(silent, api.Health{Sent: 256, Rest: 127})
	runs(t, hundred, slices.Repeat(script(rests), 27), append(slices.Clone(others), rested), make([][]api.Frame, 27)...)
	well := append(slices.Clone(others), with(silent, api.Health{}))
	runs(t, hundred, slices.Repeat(script(rests), 28), well, make([][]api.Frame, 28)...)
	runs(t, hundred, slices.Repeat(script(rests), 29), well, make([][]api.Frame, 29)...)

	// It hears and sends just from then on, and by nothing but rest it gets there.
	one := nodes(with(silent, api.Health{Sent: 256, Got: 77, Rest: 126}), has(short(1), short(2), short(3)))
	runs(t, one, script(rests, passes, passes, spoils, rests, passes, passes), nodes(
		having(listening(has(short(6))), short(9), short(1), short(2)),
		with(has(short(3)), api.Health{Sent: 22}),
	), nil, nil, nil, nil, nil, frames(short(1)), frames(short(2)))
}

// TestAllRest: each that is Off is told.
func TestAllRest(t *testing.T) {
	l, want := make([]api.Node, api.MaxNodes), make([]api.Node, api.MaxNodes)
	for i := range l {
		l[i].H = api.Health{Sent: 256, Got: 9, Rest: 122 + i}
		want[i].H = api.Health{Sent: 256, Got: 9, Rest: 123 + i}
	}
	want[api.MaxNodes-1].H = api.Health{}
	runs(t, l, script(rests), want, nil)
}

// wrongHappenings can't be done by three controllers.
func wrongHappenings() []api.Happening {
	var out []api.Happening
	for _, kind := range []int{math.MinInt, -1, 0, 6, 7, 9, math.MaxInt} {
		for _, node := range []int{-1, 0, 2, 3} {
			out = append(out, api.Happening{Kind: kind, Node: node})
		}
	}
	for kind := api.Queue; kind <= api.Take; kind++ {
		for _, node := range []int{math.MinInt, -1, 3, 4, api.MaxNodes, math.MaxInt} {
			out = append(out, api.Happening{Kind: kind, Node: node})
		}
	}
	return out
}

// TestWho: another Kind, or a Node that is none: wherever it stands, the first one
// is told.
func TestWho(t *testing.T) {
	l := nodes(has(short(5), short(6)), hears(allShort), with(has(), off))
	for _, h := range wrongHappenings() {
		stops(t, l, script(h), 0, api.ErrWho)
		stops(t, l, script(passes, puts(2, short(1)), h, takes(1)), 2, api.ErrWho)
		stops(t, l, script(h, puts(0, short(-1))), 0, api.ErrWho)
		stops(t, l, script(rests, puts(0, short(-1)), h), 1, api.ErrRange)
		stops(t, l, append(slices.Repeat(script(spoils), 99), h), 99, api.ErrWho)
		stops(t, l, append(slices.Repeat(script(spoils), 100), h), 0, api.ErrMany)
	}
	for kind := api.Queue; kind <= api.Take; kind++ {
		stops(t, nil, script(api.Happening{Kind: kind}), 0, api.ErrWho)
		for node := range l {
			if _, told, at, e := Run(l, script(api.Happening{Kind: kind, Node: node})); len(told) != 1 || at != 0 || e != api.OK {
				t.Errorf("kind %d, node %d: %v %d %d", kind, node, told, at, e)
			}
		}
	}
}

// TestMidst: an error in the midst leaves nothing behind, and nothing beside it.
func TestMidst(t *testing.T) {
	l := right(api.MaxNodes)
	was := text(l)
	good := script(passes, takes(1), puts(0, short(1)), spoils, rests, passes, takes(5))
	for i := range good {
		for _, x := range []struct {
			h api.Happening
			e api.Errno
		}{
			{api.Happening{Kind: 6}, api.ErrWho},
			{takes(6), api.ErrWho},
			{puts(0, short(1, make([]byte, 9)...)), api.ErrMany},
			{puts(3, remote(3, 9)), api.ErrRange},
		} {
			stops(t, l, slices.Insert(slices.Clone(good), i, x.h), i, x.e)
			stops(t, l, slices.Insert(slices.Clone(good), i, x.h, x.h, api.Happening{}), i, x.e)
		}
	}
	same(t, "handed in", text(l), was)
}

// TestScript: all kinds, one after the other.
func TestScript(t *testing.T) {
	l := nodes(has(), hears(api.Filter{Want: 4, Mask: 2046}), with(hears(allShort), api.Health{Sent: 256, Rest: 126}))
	a, b, c := short(5, 1), short(4, 2), remote(4, 8)
	out, told, at, e := Run(l, script(
		puts(0, a), puts(0, c), puts(0, b), puts(2, short(6)), // b, c, a
		spoils, passes, rests, rests, passes, takes(1), puts(1, short(3)), passes, passes, takes(2), takes(1), passes, passes,
	))
	same(t, "told", all(told, at, e), all(lists(
		nil, nil, nil, nil,
		nil, frames(b), nil, nil, frames(c), frames(b, c), nil, frames(short(3)), frames(a), frames(c, short(3), a), frames(a), frames(short(6)), nil,
	), 0, api.OK))
	same(t, "out", out, nodes(with(has(), api.Health{Sent: 5}), l[1], with(hears(allShort), api.Health{})))
	for _, f := range told[9] {
		if frame.Check(f) != api.OK {
			t.Errorf("%+v", f)
		}
	}
}
