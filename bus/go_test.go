package bus

import (
	"slices"
	"testing"

	"omnibus/api"
)

// goes holds what Go answers against what it should.
func goes(t *testing.T, l []api.Node, spoilt bool, want []api.Node, who int, f api.Frame) {
	t.Helper()
	out, w, g, e := Go(l, spoilt)
	if e != api.OK || w != who || text(g) != text(f) || text(out) != text(want) {
		t.Errorf("Go(%+v, %t):\n%+v %d %+v %d, want\n%+v %d %+v", l, spoilt, out, w, g, e, want, who, f)
	}
}

// quiet holds that nobody sends, and that nothing changes.
func quiet(t *testing.T, l []api.Node) {
	t.Helper()
	goes(t, l, false, l, -1, api.Frame{})
	goes(t, l, true, l, -1, api.Frame{})
}

// clashes holds that two of l have the name that comes first.
func clashes(t *testing.T, l []api.Node) {
	t.Helper()
	for _, spoilt := range []bool{false, true} {
		out, who, f, e := Go(l, spoilt)
		if out != nil || who != 0 || text(f) != text(api.Frame{}) || e != api.ErrTwice {
			t.Errorf("Go(%+v, %t): %+v %d %+v %d, want ErrTwice", l, spoilt, out, who, f, e)
		}
	}
}

// winner holds who of l sends, whether it is spoilt or not, and what.
func winner(t *testing.T, l []api.Node, who int, f api.Frame) {
	t.Helper()
	out, w, g, e := Go(l, false)
	if e != api.OK || w != who || text(g) != text(f) || len(out[who].Queue) != len(l[who].Queue)-1 {
		t.Errorf("Go(%+v): %+v %d %+v %d, want %d %+v", l, out, w, g, e, who, f)
	}
	out, w, g, e = Go(l, true)
	if e != api.OK || w != who || text(g) != text(api.Frame{}) || text(out[who].Queue) != text(l[who].Queue) {
		t.Errorf("Go(%+v, true): %+v %d %+v %d, want %d and nothing", l, out, w, g, e, who)
	}
}

// TestNobody: none has something to send, or those that do are Off.
func TestNobody(t *testing.T) {
	quiet(t, nil)
	quiet(t, nodes(has()))
	quiet(t, make([]api.Node, api.MaxNodes))
	quiet(t, nodes(with(has(short(5)), off)))
	quiet(t, nodes(with(has(short(5)), off), with(has(short(5)), off)))
	quiet(t, nodes(with(has(short(5)), off), hears(allShort), with(has(), api.Health{Sent: 200, Got: 200})))
	quiet(t, nodes(having(hears(allShort), numbered(16)...), having(has(), short(7))))
	quiet(t, nodes(with(has(short(5)), api.Health{Sent: 256, Got: 3, Rest: 127}), hears(allShort)))
}

// TestAlone: one that nobody hears doesn't send well, whatever the others have.
func TestAlone(t *testing.T) {
	one := has(short(5, 1), short(6))
	goes(t, nodes(one), false, nodes(with(one, api.Health{Sent: 8})), 0, api.Frame{})
	goes(t, nodes(one), true, nodes(with(one, api.Health{Sent: 8})), 0, api.Frame{})
	silent := with(listening(has(short(4))), api.Health{Sent: 256, Got: 9, Rest: 77})
	goes(t, nodes(silent, one, silent), false, nodes(silent, with(one, api.Health{Sent: 8}), silent), 1, api.Frame{})
	goes(t, nodes(silent, one, silent), true, nodes(silent, with(one, api.Health{Sent: 8}), silent), 1, api.Frame{})
	// It isn't heard by itself.
	own := listening(one)
	goes(t, nodes(own), false, nodes(with(own, api.Health{Sent: 8})), 0, api.Frame{})
}

// TestTwo: the one goes through, the other one has it, if its Filters let it in.
func TestTwo(t *testing.T) {
	a, b := has(short(5, 1, 2)), has(short(6))
	sender := with(a, api.Health{Sent: 10, Got: 3})
	goes(t, nodes(sender, b), false, nodes(with(has(), api.Health{Sent: 9, Got: 3}), b), 0, short(5, 1, 2))
	goes(t, nodes(b, sender), false, nodes(b, with(has(), api.Health{Sent: 9, Got: 3})), 1, short(5, 1, 2))
	goes(t, nodes(a, listening(b)), false, nodes(has(), having(listening(b), short(5, 1, 2))), 0, short(5, 1, 2))
	goes(t, nodes(listening(b), a), false, nodes(having(listening(b), short(5, 1, 2)), has()), 1, short(5, 1, 2))
	goes(t, nodes(a, listening(b)), true, nodes(with(a, api.Health{Sent: 8}), with(listening(b), api.Health{Got: 1})), 0, api.Frame{})
	goes(t, nodes(a, has()), false, nodes(has(), has()), 0, short(5, 1, 2))
	// The sender never has its own frame.
	goes(t, nodes(listening(a), listening(b)), false, nodes(listening(has()), having(listening(b), short(5, 1, 2))), 0, short(5, 1, 2))
}

// TestMost: all that may be on one bus, with another one ahead each time.
func TestMost(t *testing.T) {
	for who := range api.MaxNodes {
		l := make([]api.Node, api.MaxNodes)
		want := make([]api.Node, api.MaxNodes)
		for i := range l {
			l[i] = with(listening(has(short(100+i))), api.Health{Sent: 5, Got: 7})
			want[i] = with(having(l[i], short(50, 9)), api.Health{Sent: 5, Got: 6})
		}
		l[who].Queue = frames(short(50, 9), short(50, 8))
		want[who] = with(listening(has(short(50, 8))), api.Health{Sent: 4, Got: 7})
		goes(t, l, false, want, who, short(50, 9))
	}
}

// TestTwice: two have the first name: none goes; if another name comes first, or
// one of them is Off, one goes.
func TestTwice(t *testing.T) {
	a, b := has(short(5, 1)), has(short(5, 2))
	clashes(t, nodes(a, b))
	clashes(t, nodes(a, a))
	clashes(t, nodes(has(), a, has(short(6)), b, has()))
	clashes(t, nodes(a, b, has(short(5, 3)), has(short(5))))
	clashes(t, nodes(has(fast(5, 64, 1)), a)) // Fast isn't a part of the name
	clashes(t, nodes(has(remote(5, 0)), has(remote(5, 8))))
	clashes(t, nodes(has(long(5)), has(long(5, 1))))
	clashes(t, nodes(with(a, api.Health{Sent: 255}), with(b, api.Health{Got: 255})))
	winner(t, nodes(a, b, has(short(4))), 2, short(4))
	winner(t, nodes(has(short(6)), a, has(short(6))), 1, short(5, 1))
	winner(t, nodes(with(a, off), b, has()), 1, short(5, 2))
	winner(t, nodes(a, with(b, off), has()), 0, short(5, 1))
	clashes(t, nodes(a, with(b, off), has(short(5))))
	quiet(t, nodes(with(a, off), with(b, off), has()))
	winner(t, nodes(with(has(short(0)), off), with(has(short(0)), off), has(short(9)), has()), 2, short(9))
}

// TestSecond: but the first frame of a Queue, nothing counts.
func TestSecond(t *testing.T) {
	l := nodes(has(short(5), short(6)), has(short(7)))
	for _, id := range []int{5, 6} {
		winner(t, l, 0, short(id))
		l, _, _, _ = Go(l, false)
	}
	winner(t, l, 1, short(7))
	l, _, _, _ = Go(l, false)
	quiet(t, l)

	// Its second one has the name of another's first one, and then both are first.
	l = nodes(has(short(5), short(6)), has(short(6, 1)))
	winner(t, l, 0, short(5))
	l, _, _, _ = Go(l, false)
	clashes(t, l)

	// Of one name in one Queue the one that was put first goes; nobody else has it.
	l = nodes(has(short(5, 1), short(5, 2)), has(short(10)))
	winner(t, l, 0, short(5, 1))
	l, _, _, _ = Go(l, false)
	winner(t, l, 0, short(5, 2))

	// A second one that comes ahead of the first one can't be.
	wrong(t, nodes(has(short(6), short(4)), has(short(5))), api.ErrForm)
}

// TestNames: names that begin alike.
func TestNames(t *testing.T) {
	last := api.Frame{ID: 536870911, Long: true, Remote: true}
	for _, x := range []struct{ ahead, behind api.Frame }{
		{short(0), short(1)},
		{short(1023), short(1024)},
		{short(2046), short(2047)},
		{short(5, 255), remote(5, 0)},
		{short(5), long(5 << 18)},
		{remote(5, 8), long(5 << 18)},
		{remote(5, 8), short(6)},
		{long(5<<18 + 262143), short(6)},
		{long(5<<18 - 1), short(5)},
		{long(5 << 18), long(5<<18 + 1)},
		{long(5<<18, 1), api.Frame{ID: 5 << 18, Long: true, Remote: true, Size: 1}},
		{api.Frame{ID: 5 << 18, Long: true, Remote: true}, long(5<<18 + 1)},
		{fast(5, 8, 1), remote(5, 0)},
		{fast(5, 8, 1), api.Frame{ID: 5 << 18, Long: true, Fast: true}},
		{long(6), short(5)}, // the number alone doesn't tell
		{short(2047), long(536870911)},
	} {
		winner(t, nodes(has(x.ahead), has(x.behind)), 0, x.ahead)
		winner(t, nodes(has(x.behind), has(x.ahead)), 1, x.ahead)
		winner(t, nodes(has(), has(x.behind), has(last), has(x.ahead, last)), 3, x.ahead)
	}
}

// TestKinds: what arrives is what was sent, of each kind of frame.
func TestKinds(t *testing.T) {
	for _, f := range []api.Frame{
		short(0), short(2047, 1, 2, 3, 4, 5, 6, 7, 8), remote(5, 0), remote(5, 8), long(0), long(536870911, 9),
		{ID: 99999, Long: true, Remote: true, Size: 3}, fast(5, 0, 0), fast(5, 64, 7),
		{ID: 99999, Long: true, Fast: true, Data: make([]byte, 12)},
	} {
		short, long := hears(allShort), hears(allLong)
		want := nodes(has(), having(short, f), long)
		if f.Long {
			want = nodes(has(), short, having(long, f))
		}
		goes(t, nodes(has(f), short, long), false, want, 0, f)
	}
}

// TestFilters: who lets the frame in has it once, however many Filters do; who
// doesn't is told nonetheless that it was there.
func TestFilters(t *testing.T) {
	f := short(5, 1)
	got := api.Health{Got: 9}
	for _, x := range []struct {
		l   []api.Filter
		has bool
	}{
		{nil, false},
		{filters(), false},
		{filters(allShort), true},
		{filters(allLong), false},
		{filters(allLong, allShort), true},
		{slices.Repeat(filters(allShort), 16), true},
		{filters(api.Filter{Want: 5, Mask: 2047}), true},
		{filters(api.Filter{Want: 6, Mask: 2047}), false},
		{filters(api.Filter{Want: 6, Mask: 2044}), true},
		{filters(api.Filter{Want: 5, Mask: 2047, Long: true}), false},
		{append(slices.Repeat(filters(api.Filter{Want: 6, Mask: 2047}), 15), api.Filter{Want: 5, Mask: 2047}), true},
	} {
		n := with(hears(x.l...), got)
		want := with(n, api.Health{Got: 8})
		if x.has {
			want = having(want, f)
		}
		goes(t, nodes(has(f), n), false, nodes(has(), want), 0, f)
		goes(t, nodes(n, has(f)), false, nodes(want, has()), 1, f)
		bad := with(n, api.Health{Got: 10})
		goes(t, nodes(has(f), n), true, nodes(with(has(f), api.Health{Sent: 8}), bad), 0, api.Frame{})
	}
}

// TestRoom: of a Got that is full the first one goes, for one that is let in.
func TestRoom(t *testing.T) {
	f := short(5, 99)
	for _, n := range []int{0, 1, 14, 15} {
		got := numbered(n)
		goes(t, nodes(has(f), having(hears(allShort), got...)), false, nodes(has(), having(hears(allShort), append(got, f)...)), 0, f)
	}
	full := numbered(16)
	goes(t, nodes(has(f), having(hears(allShort), full...)), false, nodes(has(), having(hears(allShort), append(full[1:], f)...)), 0, f)
	goes(t, nodes(has(f), having(hears(allLong), full...)), false, nodes(has(), having(hears(allLong), full...)), 0, f)
	goes(t, nodes(having(has(f), full...), has()), false, nodes(having(has(), full...), has()), 0, f)
	spoilt := nodes(with(has(f), api.Health{Sent: 8}), with(having(hears(allShort), full...), api.Health{Got: 1}))
	goes(t, nodes(has(f), having(hears(allShort), full...)), true, spoilt, 0, api.Frame{})

	// Each has room of its own; what it got is twice there, if it came twice.
	l := nodes(has(f, f), having(hears(allShort), full...), having(hears(allShort), full[:15]...), hears(allShort))
	for range 2 {
		l, _, _, _ = Go(l, false)
	}
	same(t, "twice", l, nodes(has(), having(hears(allShort), append(full[2:], f, f)...),
		having(hears(allShort), append(full[1:15:15], f, f)...), having(hears(allShort), f, f)))
}

// TestCounters: what each is told, with its counters at their edges.
func TestCounters(t *testing.T) {
	q := has(short(5))
	listener := hears(allShort)
	sent := func(n int) api.Health { return api.Health{Sent: n} }
	for _, x := range []struct{ from, well, spoilt, alone int }{
		{0, 0, 8, 8},
		{1, 0, 9, 9},
		{119, 118, 127, 127},
		{120, 119, 128, 128}, // one error ahead of Passive
		{127, 126, 135, 135},
		{128, 127, 136, 128}, // Passive
		{247, 246, 255, 247},
		{248, 247, 256, 248}, // one error ahead of Off
		{255, 254, 256, 255},
	} {
		n := with(q, sent(x.from))
		goes(t, nodes(n, listener), false, nodes(with(has(), sent(x.well)), having(listener, short(5))), 0, short(5))
		goes(t, nodes(n, listener), true, nodes(with(q, sent(x.spoilt)), with(listener, api.Health{Got: 1})), 0, api.Frame{})
		goes(t, nodes(n), true, nodes(with(q, sent(x.spoilt))), 0, api.Frame{})
		goes(t, nodes(n), false, nodes(with(q, sent(x.alone))), 0, api.Frame{})
		goes(t, nodes(with(q, off), n), false, nodes(with(q, off), with(q, sent(x.alone))), 1, api.Frame{})
	}
	for _, x := range []struct{ from, well, bad int }{
		{0, 0, 1}, {1, 0, 2}, {127, 126, 128}, {128, 126, 129}, {129, 126, 130}, {254, 126, 255}, {255, 126, 255},
	} {
		n := with(listener, api.Health{Sent: 77, Got: x.from})
		well := with(having(listener, short(5)), api.Health{Sent: 77, Got: x.well})
		goes(t, nodes(n, q), false, nodes(well, has()), 1, short(5))
		bad := with(listener, api.Health{Sent: 77, Got: x.bad})
		goes(t, nodes(n, q), true, nodes(bad, with(q, sent(8))), 1, api.Frame{})
	}
}

// TestPassive: Passive by what it got, too: that is told nothing if nobody hears it.
func TestPassive(t *testing.T) {
	for _, h := range []api.Health{{Got: 128}, {Got: 255}, {Sent: 128}, {Sent: 255, Got: 255}, {Sent: 127, Got: 128}} {
		n := with(has(short(5)), h)
		goes(t, nodes(n), false, nodes(n), 0, api.Frame{})
		goes(t, nodes(n, with(has(), off)), false, nodes(n, with(has(), off)), 0, api.Frame{})
		worse := with(n, api.Health{Sent: min(h.Sent+8, 256), Got: h.Got})
		goes(t, nodes(n), true, nodes(worse), 0, api.Frame{})
		goes(t, nodes(n, has()), true, nodes(worse, with(has(), api.Health{Got: 1})), 0, api.Frame{})
		better := with(has(), api.Health{Sent: max(h.Sent-1, 0), Got: h.Got})
		goes(t, nodes(n, has()), false, nodes(better, has()), 0, short(5))
		// One that is Passive hears as well as others do.
		goes(t, nodes(with(has(), h), has(short(5))), false, nodes(with(has(), api.Health{Sent: h.Sent, Got: max(min(h.Got, 127)-1, 0)}), has()), 1, short(5))
	}
	for _, h := range []api.Health{{Got: 127}, {Sent: 127}, {Sent: 127, Got: 127}} {
		n := with(has(short(5)), h)
		goes(t, nodes(n), false, nodes(with(n, api.Health{Sent: h.Sent + 8, Got: h.Got})), 0, api.Frame{})
	}
}

// TestOff: those that are Off are told nothing, get nothing, and send nothing.
func TestOff(t *testing.T) {
	silent := with(having(listening(has(short(0), short(1))), short(9)), api.Health{Sent: 256, Got: 200, Rest: 127})
	sender, other := has(short(5)), hears(allShort)
	goes(t, nodes(silent, sender, silent, other, silent), false, nodes(silent, has(), silent, having(other, short(5)), silent), 1, short(5))
	goes(t, nodes(silent, sender, silent, other, silent), true,
		nodes(silent, with(sender, api.Health{Sent: 8}), silent, with(other, api.Health{Got: 1}), silent), 1, api.Frame{})
	goes(t, nodes(silent, sender), false, nodes(silent, with(sender, api.Health{Sent: 8})), 1, api.Frame{})

	// One becomes Off by its own frame: that stays where it was, and another one goes.
	l := nodes(with(sender, api.Health{Sent: 248}), has(short(6)), other)
	l, who, _, _ := Go(l, true)
	same(t, "last error", all(who, l[0]), all(0, with(sender, off)))
	winner(t, l, 1, short(6))
}

// all of what is answered, as one.
func all(l ...any) []any { return l }
