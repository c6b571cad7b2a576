package delay

import (
	"slices"
	"testing"

	"omnibus/api"
)

// waits is what Worst tells of l, without Fits, which must be as Wait and Late say.
func waits(t *testing.T, l []api.Task) []int {
	t.Helper()
	s, e := Worst(l)
	if e != api.OK || len(s) != len(l) {
		t.Fatalf("%v: %v %d", l, s, e)
	}
	var out []int
	for i, x := range s {
		if x.Fits != (x.Wait != -1 && x.Wait <= l[i].Late) {
			t.Errorf("%v: %d of it: %v", l, i, x)
		}
		out = append(out, x.Wait)
	}
	return out
}

// same holds Worst against what it should tell.
func same(t *testing.T, l []api.Task, want ...int) {
	t.Helper()
	if got := waits(t, l); !slices.Equal(got, want) {
		t.Errorf("%v: %v, want %v", l, got, want)
	}
}

func TestWorst(t *testing.T) {
	same(t, nil)
	same(t, list())
	for n := range 9 { // alone it waits for nobody
		same(t, list(task(1, n, 1000)), 55+10*n)
		same(t, list(task(1, n, 1000000)), 55+10*n)
		same(t, list(jitter(task(1, n, 1000), 7)), 62+10*n)
		same(t, list(jitter(task(1, n, 1000000), 999999)), 1000054+10*n)
	}
	same(t, list(task(1, 8, 1000), task(2, 8, 1000)), 270, 270)
	same(t, list(task(1, 8, 1000), task(2, 8, 1000), jitter(task(3, 8, 1000), 7)), 270, 405, 412)
	// Neither number nor Late counts, only what is ahead of what.
	same(t, list(late(task(0, 8, 1000), 0), late(task(2047, 8, 1000), 0)), 270, 270)
}

// TestBehind: each waits for the longest one behind it, wherever that is.
func TestBehind(t *testing.T) {
	const e = 100000
	same(t, list(task(1, 0, e), task(2, 8, e), task(3, 4, e)), 55+135, 95+55+135, 55+135+95)
	same(t, list(task(1, 0, e), task(2, 4, e), task(3, 8, e)), 55+135, 135+55+95, 55+95+135)
	same(t, list(task(1, 8, e), task(2, 0, e), task(3, 0, e)), 55+135, 55+135+55, 135+55+55)
	same(t, list(task(1, 8, e), task(2, 4, e), task(3, 0, e)), 95+135, 55+135+95, 135+95+55)
	same(t, list(task(1, 4, e), task(2, 0, e), task(3, 8, e), task(4, 1, e)), 135+95, 135+95+55, 65+95+55+135, 95+55+135+65)
}

// TestAhead: how often the ones ahead come.
func TestAhead(t *testing.T) {
	const e = 100000
	// At 270 the last one could begin: the first one, asked for again just then, goes
	// ahead of it, and doesn't if it is asked for a tick later.
	same(t, list(task(1, 8, 270), task(2, 8, e), task(3, 0, e)), 270, 325, 460)
	same(t, list(task(1, 8, 271), task(2, 8, e), task(3, 0, e)), 270, 325, 325)
	same(t, list(task(1, 8, 190), task(2, 0, e)), 190, 190)
	same(t, list(jitter(task(1, 8, 190), 54), task(2, 0, e)), 244, 190)
	same(t, list(jitter(task(1, 8, 190), 55), task(2, 0, e)), 245, 325)
	same(t, list(jitter(task(1, 8, 1000), 864), task(2, 0, e)), 1054, 190)
	same(t, list(jitter(task(1, 8, 1000), 865), task(2, 0, e)), 1055, 325)
	// What the one behind asks for by Jitter is nothing to those ahead.
	same(t, list(task(1, 8, 1000), jitter(task(2, 0, e), 99999)), 190, 99999+190)
}

// TestLater: the bus is busy over several messages of one task.
func TestLater(t *testing.T) {
	// Of the last one the second message waits longest: it begins at 810, 337 behind
	// its time. The first waits for 405, as does that of the one ahead of it, whose
	// second message waits for 202.
	same(t, list(task(1, 8, 337), task(2, 8, 473), task(3, 8, 473)), 270, 405, 472)
	// A tick more between the first one's messages, and the second begins at 675.
	same(t, list(task(1, 8, 338), task(2, 8, 473), task(3, 8, 473)), 270, 405, 405)
	// Busy for 55 messages of 135 ticks; each waits for a tick less than the one ahead.
	same(t, list(task(1, 8, 136), task(2, 0, 500000)), 190, 190)
	// Alone with Jitter: all behind the first, which came late, are sent nearer to
	// their times.
	same(t, list(jitter(task(1, 8, 140), 139)), 274)
	same(t, list(jitter(task(1, 8, 136), 135)), 270)
}

// TestFull: with all of a bus's time, or more than that, asked for.
func TestFull(t *testing.T) {
	const e = 100000
	same(t, list(task(1, 8, 135)), 135)
	same(t, list(task(1, 8, 134)), -1)
	same(t, list(task(1, 8, 136)), 135)
	same(t, list(task(1, 8, 1)), -1)
	same(t, list(jitter(task(1, 8, 135), 1)), -1)
	same(t, list(jitter(task(1, 8, 136), 1)), 136)
	same(t, list(task(1, 8, 270), task(2, 8, 270)), 270, 270)
	same(t, list(task(1, 8, 269), task(2, 8, 270)), 270, -1)
	same(t, list(task(1, 8, 271), task(2, 8, 270)), 270, 270)
	// One behind makes what was just enough too much, for all but those who come early.
	same(t, list(task(1, 8, 135), task(2, 0, e)), -1, -1)
	same(t, list(task(1, 8, 270), task(2, 8, 270), task(3, 0, e)), 270, -1, -1)
	same(t, list(task(1, 8, 1000), task(2, 8, 100), task(3, 8, 1000)), 270, -1, -1)
	var all []api.Task
	for i := range api.MaxMessages {
		all = append(all, task(i, 8, 20*135))
	}
	want := []int{}
	for i := range api.MaxMessages - 1 {
		want = append(want, 135*(i+2))
	}
	same(t, all, append(want, 135*20)...)
}

// TestEdge: a search that comes just to 200000 ticks, and one that comes above it.
func TestEdge(t *testing.T) {
	for _, x := range []struct {
		l    []api.Task
		busy int // of the last one
		wait int
	}{
		{list(jitter(task(1, 6, 2091), 733), jitter(task(2, 3, 90), 75)), 199995, 315},
		{list(jitter(task(1, 7, 784), 698), task(2, 5, 125)), 200000, 360},
		{list(jitter(task(1, 3, 335), 325), task(2, 8, 181)), 200005, -1},
		{list(task(1, 8, 181), jitter(task(2, 3, 335), 316)), 200005, -1},
		// These go on: by way of 200000, and from below it to 200005.
		{list(jitter(task(1, 0, 56), 11), jitter(task(2, 4, 2771), 2717)), 0, -1},
		{list(jitter(task(1, 7, 129), 7), jitter(task(2, 2, 2011), 922)), 0, -1},
		{list(jitter(task(1, 6, 192), 136), jitter(task(2, 2, 187), 86)), 0, -1},
	} {
		if n := lull(x.l, 1, 1000000); n != x.busy {
			t.Errorf("%v: busy for %d, want %d", x.l, n, x.busy)
		}
		if got := waits(t, x.l); got[1] != x.wait || tried(x.l, 1) != x.wait {
			t.Errorf("%v: %v, want %d", x.l, got, x.wait)
		}
	}
}

// TestFits: just so late, and a tick later; and where there is no telling.
func TestFits(t *testing.T) {
	for _, x := range []struct {
		l    []api.Task
		want []api.Stop
	}{
		{list(late(task(1, 8, 1000), 135)), []api.Stop{{Wait: 135, Fits: true}}},
		{list(late(task(1, 8, 1000), 134)), []api.Stop{{Wait: 135}}},
		{list(late(task(1, 8, 1000), 136)), []api.Stop{{Wait: 135, Fits: true}}},
		{list(late(task(1, 8, 1000), 0)), []api.Stop{{Wait: 135}}},
		{list(late(jitter(task(1, 8, 1000), 9), 143)), []api.Stop{{Wait: 144}}},
		{list(late(jitter(task(1, 8, 1000), 9), 144)), []api.Stop{{Wait: 144, Fits: true}}},
		{list(late(task(1, 8, 200), 900)), []api.Stop{{Wait: 135, Fits: true}}}, // Late may be above Every
		{list(late(task(1, 8, 134), 0)), []api.Stop{{Wait: -1}}},
		{list(late(task(1, 8, 134), api.MaxTime)), []api.Stop{{Wait: -1}}},
		{list(jitter(task(1, 8, api.MaxTime), api.MaxTime-1)), []api.Stop{{Wait: 1000134}}}, // above any Late
		{list(late(task(1, 8, 1000), 270), late(task(2, 8, 1000), 269), late(task(3, 0, 50), 500)), []api.Stop{{Wait: 270, Fits: true}, {Wait: 325}, {Wait: -1}}},
	} {
		if got, e := Worst(x.l); e != api.OK || !slices.Equal(got, x.want) {
			t.Errorf("%v: %v %d, want %v", x.l, got, e, x.want)
		}
	}
}
