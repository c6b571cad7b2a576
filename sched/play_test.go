package sched

import (
	"math"
	"slices"
	"testing"

	"omnibus/api"
)

// slot is one, written shortly.
func slot(task, asked, from, end int) api.Slot {
	return api.Slot{Task: task, Asked: asked, From: from, End: end}
}

// takesNow is how many ticks a message with so many bytes takes.
func takesNow(bytes int) int { return 55 + 10*bytes }

func TestPlayOne(t *testing.T) {
	for n := range 9 {
		plays(t, list(task(1, n, 1000, 0)), ints(3), nil, 2004, slot(0, 3, 3, 3+takesNow(n)), slot(0, 1003, 1003, 1003+takesNow(n)), slot(0, 2003, 2003, 2003+takesNow(n)))
	}
	plays(t, nil, nil, nil, 5)
	plays(t, list(), ints(), ints(1, 2), 5)
	// One that asks for more than there is room for: each waits longer.
	plays(t, list(task(1, 8, 100, 0)), ints(0), nil, 301, slot(0, 0, 0, 135), slot(0, 100, 135, 270), slot(0, 200, 270, 405), slot(0, 300, 405, 540))
}

// TestTogether: of those that ask at one time the first task goes, whatever their
// Bytes, Every and Late.
func TestTogether(t *testing.T) {
	plays(t, list(task(1, 8, 1000, 0), task(2, 8, 1000, 0)), ints(5, 5), nil, 6, slot(0, 5, 5, 140), slot(1, 5, 140, 275))
	plays(t, list(task(1, 8, 1000, 0), task(2, 0, 50, 0)), ints(0, 0), nil, 1, slot(0, 0, 0, 135), slot(1, 0, 135, 190))
	plays(t, list(api.Task{ID: 1, Every: 900, Late: 900}, api.Task{ID: 2, Every: 100, Late: 0}), ints(0, 0), nil, 1, slot(0, 0, 0, 55), slot(1, 0, 55, 110))
	l, first, time := many(api.MaxMessages), make([]int, api.MaxMessages), 0
	var want []api.Slot
	for i, x := range l {
		want = append(want, slot(i, 0, time, time+takesNow(x.Bytes)))
		time += takesNow(x.Bytes)
	}
	plays(t, l, first, nil, 1, want...)
	// The other way round, tick by tick: the last one goes, then all in order.
	for i := range first {
		first[i] = len(first) - 1 - i
	}
	got, e := Play(l, first, nil, len(first))
	if e != api.OK || len(got) != len(l) || got[0] != slot(19, 0, 0, takesNow(1)) {
		t.Fatalf("%v %d", got, e)
	}
	for i, x := range got[1:] {
		if x.Task != i || x.Asked != first[i] || x.From != got[i].End || x.End != x.From+takesNow(l[i].Bytes) {
			t.Errorf("%v behind %v", x, got[i])
		}
	}
}

// TestJustFree: what is asked for just when the bus becomes free goes with those
// that wait already; a tick later is too late.
func TestJustFree(t *testing.T) {
	plays(t, list(task(1, 8, 135, 0), task(2, 8, 1000, 0)), ints(0, 10), nil, 271, slot(0, 0, 0, 135), slot(0, 135, 135, 270), slot(0, 270, 270, 405), slot(1, 10, 405, 540))
	plays(t, list(task(1, 8, 136, 0), task(2, 8, 1000, 0)), ints(0, 10), nil, 272, slot(0, 0, 0, 135), slot(1, 10, 135, 270), slot(0, 136, 270, 405))
	plays(t, list(task(1, 8, 1000, 0), task(2, 8, 1000, 0)), ints(135, 0), nil, 136, slot(1, 0, 0, 135), slot(0, 135, 135, 270))
	// By its lateness.
	plays(t, list(task(1, 8, 1000, 999), task(2, 8, 1000, 0), task(3, 8, 1000, 0)), ints(0, 0, 0), ints(135), 1, slot(1, 0, 0, 135), slot(0, 0, 135, 270), slot(2, 0, 270, 405))
	plays(t, list(task(1, 8, 1000, 999), task(2, 8, 1000, 0), task(3, 8, 1000, 0)), ints(0, 0, 0), ints(136), 1, slot(1, 0, 0, 135), slot(2, 0, 135, 270), slot(0, 0, 270, 405))
	// One that goes isn't stopped.
	plays(t, list(task(1, 0, 1000, 0), task(2, 8, 1000, 0)), ints(1, 0), nil, 2, slot(1, 0, 0, 135), slot(0, 1, 135, 190))
}

// TestRests: nobody asks between.
func TestRests(t *testing.T) {
	plays(t, list(task(1, 8, 500, 0), task(2, 0, 700, 0)), ints(100, 240), nil, 1100,
		slot(0, 100, 100, 235), slot(1, 240, 240, 295), slot(0, 600, 600, 735), slot(1, 940, 940, 995))
	// Two of which the second task's is asked for first.
	plays(t, list(task(1, 8, 900, 0), task(2, 8, 900, 0)), ints(800, 700), nil, 801, slot(1, 700, 700, 835), slot(0, 800, 835, 970))
	plays(t, list(task(1, 8, 900, 0), task(2, 8, 900, 0)), ints(800, 100), nil, 801, slot(1, 100, 100, 235), slot(0, 800, 800, 935))
	plays(t, list(task(1, 8, api.MaxTime, 0)), ints(api.MaxTime-1), nil, api.MaxTime, slot(0, 999999, 999999, 1000134))
}

// TestLate: by how much messages are asked for later.
func TestLate(t *testing.T) {
	one := list(task(1, 8, 1000, 9))
	for _, x := range []struct{ later, by int }{
		{0, 0}, {1, 1}, {8, 8}, {9, 9}, {10, 0}, {11, 1}, {19, 9}, {20, 0}, {25, 5}, {1005, 5},
		{math.MaxInt32, 7}, {math.MaxInt, math.MaxInt % 10}, {math.MaxInt - 7, 0},
	} {
		plays(t, one, ints(5), ints(x.later), 1006, slot(0, 5, 5+x.by, 140+x.by), slot(0, 1005, 1005+x.by, 1140+x.by))
	}
	plays(t, one, ints(5), nil, 6, slot(0, 5, 5, 140))
	plays(t, one, ints(5), []int{}, 6, slot(0, 5, 5, 140))
	never := list(task(1, 8, 1000, 0))
	plays(t, never, ints(5), ints(7), 6, slot(0, 5, 5, 140))
	plays(t, list(task(1, 8, 1000, 999)), ints(0), ints(math.MaxInt), 1, slot(0, 0, 807, 942))
	last := list(task(1, 8, api.MaxTime, api.MaxTime-1))
	plays(t, last, ints(api.MaxTime-1), ints(api.MaxTime-1), api.MaxTime, slot(0, 999999, 1999998, 2000133))
	plays(t, last, ints(api.MaxTime-1), ints(api.MaxTime), api.MaxTime, slot(0, 999999, 999999, 1000134))
	// Late behind one of a task that isn't ahead of it.
	plays(t, list(task(1, 8, 1000, 9), task(2, 8, 1000, 0)), ints(0, 8), ints(9), 10, slot(1, 8, 8, 143), slot(0, 0, 143, 278))
	plays(t, list(task(1, 8, 1000, 9), task(2, 8, 1000, 0)), ints(0, 8), ints(8), 10, slot(0, 0, 8, 143), slot(1, 8, 143, 278))
}

// TestAround: the numbers of later go on from task to task, around, and those that
// are never late take none.
func TestAround(t *testing.T) {
	l := list(task(1, 0, 1000, 4), task(2, 0, 1000, 0), task(3, 0, 1000, 50), task(4, 0, 1000, 9))
	first := ints(100, 300, 500, 700)
	by := func(a, b, c, d, e, f, g, h int) []api.Slot {
		var out []api.Slot
		for i, n := range []int{a, b, c, d, e, f, g, h} {
			asked := first[i%4] + i/4*1000
			out = append(out, slot(i%4, asked, asked+n, asked+n+55))
		}
		return out
	}
	plays(t, l, first, ints(3), 2000, by(3, 0, 3, 3, 3, 0, 3, 3)...)
	plays(t, l, first, ints(1, 2), 2000, by(1, 0, 1, 1, 2, 0, 2, 2)...)
	plays(t, l, first, ints(1, 2, 3, 4), 2000, by(1, 0, 3, 1, 2, 0, 4, 2)...)
	plays(t, l, first, ints(1, 2, 3, 4, 5), 2000, by(1, 0, 3, 5, 2, 0, 4, 1)...)
	plays(t, l, first, ints(1, 2, 3, 4, 5, 6), 2000, by(1, 0, 3, 5, 2, 0, 4, 6)...)
	plays(t, l, first, ints(1, 2, 3, 4, 5, 6, 7, 8), 2000, by(1, 0, 3, 5, 2, 0, 4, 6)...)
	plays(t, l, first, ints(49, 59, 69, 79), 2000, by(4, 0, 18, 9, 4, 0, 28, 9)...)
	// All numbers there may be, and around once more.
	later := make([]int, api.MaxBits-1)
	for i := range later {
		later[i] = i + 1
	}
	got, e := Play(list(task(1, 0, 1000, 999)), ints(0), later, api.MaxTime)
	if e != api.OK || len(got) != api.MaxBits || got[998] != slot(0, 998000, 998999, 999054) || got[999] != slot(0, 999000, 999054, 999109) {
		t.Errorf("%v %d", got, e)
	}
	// A first number that a task without messages doesn't take.
	plays(t, list(task(1, 0, 1000, 9), task(2, 0, 1000, 9)), ints(500, 0), ints(5, 7), 500, slot(1, 0, 5, 60))
}

// TestOwnOrder: of two of one task that wait together the first goes first, though
// it be late for as long as it may and the other one not at all. (It can't be asked
// for behind the other one: Jitter is below Every.)
func TestOwnOrder(t *testing.T) {
	l := list(task(1, 8, 1000, 0), task(2, 0, 50, 49))
	plays(t, l, ints(0, 0), ints(49, 0), 51, slot(0, 0, 0, 135), slot(1, 0, 135, 190), slot(1, 50, 190, 245))
	plays(t, l, ints(0, 1), ints(49, 0, 49, 0), 152, slot(0, 0, 0, 135), slot(1, 1, 135, 190), slot(1, 51, 190, 245), slot(1, 101, 245, 300), slot(1, 151, 300, 355))
	// Alone: it goes when it is asked for, and the other one a tick later waits.
	plays(t, l[1:], ints(0), ints(49, 0), 51, slot(0, 0, 49, 104), slot(0, 50, 104, 159))
	// Of two tasks whose messages wait together the first task's go first, all of them.
	plays(t, list(task(1, 0, 100, 99), task(2, 8, 1000, 0), task(3, 8, 1000, 0)), ints(2, 0, 1), ints(99, 0), 103,
		slot(1, 0, 0, 135), slot(0, 2, 135, 190), slot(0, 102, 190, 245), slot(2, 1, 245, 380))
}

// TestAllSlots: a thousand messages, one behind the other.
func TestAllSlots(t *testing.T) {
	got, e := Play(list(task(1, 8, 1, 0)), ints(0), nil, api.MaxBits)
	if e != api.OK || len(got) != api.MaxBits {
		t.Fatalf("%d %d", len(got), e)
	}
	for i, x := range got {
		if x != slot(0, i, 135*i, 135*i+135) {
			t.Errorf("%d: %v", i, x)
		}
	}
	if w, e := Waits(list(task(1, 8, 1, 0)), got); e != api.OK || !slices.Equal(w, ints(135*1000-999)) {
		t.Errorf("%v %d", w, e)
	}
}

func TestWaits(t *testing.T) {
	l := many(3)
	waits(t, nil, nil)
	waits(t, list(), []api.Slot{})
	waits(t, l, nil, 0, 0, 0)
	waits(t, l, []api.Slot{slot(1, 10, 20, 30)}, 0, 20, 0)
	waits(t, l, []api.Slot{slot(1, 10, 20, 30), slot(1, 9, 20, 30), slot(1, 11, 20, 30), slot(0, 7, 7, 8)}, 1, 21, 0)
	waits(t, l, []api.Slot{slot(2, 5, 0, 5), slot(0, 5, 0, 4), slot(1, 5, 0, 6)}, 0, 1, 0)
	waits(t, l, []api.Slot{slot(2, 0, 0, 0), slot(0, 9, 0, 0)}, 0, 0, 0)
	waits(t, l, []api.Slot{slot(2, 0, 0, 10*api.MaxTime), slot(0, 1, 0, 10*api.MaxTime)}, 9999999, 0, 10000000)
	waits(t, l, []api.Slot{slot(2, 10*api.MaxTime-1, 0, 10*api.MaxTime), slot(0, 10*api.MaxTime+1, 0, 10*api.MaxTime)}, 0, 0, 1)
	full := many(api.MaxMessages)
	waits(t, full, []api.Slot{slot(19, 5, 5, 105), slot(0, 5, 5, 65)}, append(append(ints(60), make([]int, 18)...), 100)...)
	// From is nothing to it.
	for _, n := range append(ints(0, 50), extremes...) {
		waits(t, l, []api.Slot{slot(1, 5, n, 55)}, 0, 50, 0)
	}
	// Many of them.
	waits(t, l, slices.Repeat([]api.Slot{slot(0, 5, 5, 55), slot(2, 5, 5, 56)}, 3000), 50, 0, 51)
}

// TestWaitsFar: numbers so far off that what is between them is no int.
func TestWaitsFar(t *testing.T) {
	l := many(2)
	waits(t, l, []api.Slot{slot(0, 5, 0, math.MinInt)}, 0, 0)
	waits(t, l, []api.Slot{slot(0, math.MaxInt, 0, math.MinInt)}, 0, 0)
	waits(t, l, []api.Slot{slot(0, math.MaxInt, 0, -3), slot(1, 1, 0, math.MinInt)}, 0, 0)
	waits(t, l, []api.Slot{slot(0, math.MaxInt, math.MinInt, 7), slot(1, 0, math.MaxInt, 7)}, 0, 7)
	waits(t, l, []api.Slot{slot(0, 0, 0, math.MinInt), slot(0, 0, 0, -1), slot(1, 2, 0, math.MinInt+1)}, 0, 0)
}

func TestWaitsErrors(t *testing.T) {
	good := slot(1, 10, 20, 30)
	bad := []api.Slot{
		slot(-1, 10, 20, 30), slot(3, 10, 20, 30), slot(20, 10, 20, 30), slot(math.MinInt, 10, 20, 30), slot(math.MaxInt, 10, 20, 30),
		slot(1, -1, 20, 30), slot(1, math.MinInt, 20, 30), slot(1, math.MinInt, 20, math.MinInt),
		slot(1, 10, 20, 10*api.MaxTime+1), slot(1, 10, 20, math.MaxInt), slot(1, math.MaxInt, 20, math.MaxInt), slot(1, 10*api.MaxTime+1, 20, 10*api.MaxTime+1),
		slot(-1, -1, -1, math.MaxInt),
	}
	for _, x := range bad {
		waitsFail(t, many(3), []api.Slot{x}, api.ErrRange)
		waitsFail(t, many(3), []api.Slot{good, good, x}, api.ErrRange)
		waitsFail(t, many(3), []api.Slot{x, good}, api.ErrRange)
		waitsFail(t, nil, []api.Slot{x}, api.ErrRange)
	}
	waitsFail(t, nil, []api.Slot{slot(0, 10, 20, 30)}, api.ErrRange)
	waitsFail(t, many(1), []api.Slot{good}, api.ErrRange)
	waitsFail(t, many(api.MaxMessages), []api.Slot{slot(api.MaxMessages, 10, 20, 30)}, api.ErrRange)
	waits(t, many(2), []api.Slot{slot(0, 0, 0, 0)}, 0, 0)
}
