package route

import (
	"math/rand"
	"slices"
	"testing"

	"omnibus/api"
)

// turned has routes as they are when numbers are counted down from the last one: what
// led up leads down.
func turned(l []api.Route) []api.Route {
	out := slices.Clone(l)
	for i := range out {
		out[i].Add *= -1
		if out[i].F.Long {
			out[i].F.Want ^= api.MaxLong
		}
	}
	return out
}

// checkFar holds what Spread tells of a Long frame on bus 0 against want: upward, and
// downward from the other end.
func checkFar(t *testing.T, id int, want api.Errno, l ...api.Route) {
	t.Helper()
	checkNoSpread(t, l, 0, long(id, 1, 2), want)
	checkNoSpread(t, turned(l), 0, long(api.MaxLong-id, 1, 2), want)
}

// climb leads from bus 0 over bus 1 to bus 0, each time to a number greater by so much.
func climb(by int, more ...api.Route) []api.Route {
	return append(list(longVia(0, 1, by), longVia(1, 0, 0)), more...)
}

// TestFarBack: number by number up to one from which it goes back.
func TestFarBack(t *testing.T) {
	for _, n := range []int{3, 999, near/2 - 1, near / 2, near/2 + 1, 49000, 60000, 100000, 300000, 2000000} {
		checkFar(t, 0, api.ErrRound, climb(1, only(longVia(0, 1, -n), n))...)
		checkFar(t, 0, api.ErrRound, climb(1, only(longVia(1, 0, -1), n))...)
		checkFar(t, 0, api.ErrRound, climb(1, only(longVia(0, 2, -2), n), longVia(2, 3, 0), longVia(3, 0, -1))...)
		// back to where it begins, and from a number that lies behind
		checkFar(t, n-2, api.ErrRound, climb(1, only(longVia(1, 0, -2), n))...)
		checkFar(t, n+1, api.ErrMany, climb(1, only(longVia(1, 0, -2), n))...)
	}
}

// TestFarAside: number by number up to one from which it goes to a round of other
// buses, or from which there is nearly one.
func TestFarAside(t *testing.T) {
	for _, n := range []int{7, near / 2, 60000, 200000} {
		to := only(longVia(0, 2, 0), n)
		checkFar(t, 0, api.ErrRound, climb(1, to, longVia(2, 3, 0), longVia(3, 2, 0))...)
		checkFar(t, 0, api.ErrRound, climb(1, to, longVia(2, 3, 5), longVia(3, 2, -5))...)
		checkFar(t, 0, api.ErrRound, climb(1, to, longVia(2, 3, -n/2), only(longVia(3, 2, n/2), n-n/2))...)
		checkFar(t, n, api.ErrRound, climb(1, to, longVia(2, 3, 0), longVia(3, 2, 0))...)
		checkFar(t, n+1, api.ErrMany, climb(1, to, longVia(2, 3, 0), longVia(3, 2, 0))...)
		checkFar(t, 0, api.ErrMany, climb(1, to, longVia(2, 3, 1), longVia(3, 2, 0))...)
		checkFar(t, 0, api.ErrMany, climb(1, to, longVia(2, 3, -1), longVia(3, 2, 0))...)
		checkFar(t, 0, api.ErrMany, climb(1, to, longVia(2, 3, 0), only(longVia(3, 2, 0), n+1))...)
		checkFar(t, 0, api.ErrMany, climb(1, to, longVia(2, 3, 0), via(3, 2, 0))...)
		checkFar(t, 0, api.ErrMany, climb(1, to, longVia(3, 2, 0), longVia(2, 3, -n-1))...)
	}
}

// TestFarthest: a round that only the last number leads to, and one that it doesn't.
func TestFarthest(t *testing.T) {
	const last = api.MaxLong
	for _, by := range []int{999, 4096} {
		from := last % by // so that the last one is come to
		checkFar(t, from, api.ErrRound, climb(by, only(longVia(0, 1, from-last), last))...)
		checkFar(t, from, api.ErrRound, climb(by, only(longVia(0, 2, 0), last), longVia(2, 3, 0), longVia(3, 2, 0))...)
		checkFar(t, from+1, api.ErrMany, climb(by, only(longVia(0, 1, from-last), last))...)
		checkFar(t, from+1, api.ErrMany, climb(by, only(longVia(0, 2, 0), last), longVia(2, 3, 0), longVia(3, 2, 0))...)
	}
}

// TestFarNoRound: up to the last number without a round, however much it looks so.
func TestFarNoRound(t *testing.T) {
	for _, by := range []int{1, 2, 3, 1000} {
		checkFar(t, 0, api.ErrMany, climb(by)...)
		checkFar(t, 12345, api.ErrMany, climb(by, longVia(0, 1, 7), longVia(1, 2, 0), longVia(2, 3, 5), longVia(3, 0, -4))...)
		// the way back is below the first number
		checkFar(t, 300001, api.ErrMany, climb(by, only(longVia(0, 1, -3000), 300000))...)
		// it leads to where nothing is carried on
		checkFar(t, 0, api.ErrMany, climb(by, only(longVia(0, 2, -200000), 300000))...)
		checkFar(t, 0, api.ErrMany, climb(by, only(longVia(0, 1, -300001), 300000))...)
		// another kind is let in
		checkFar(t, 0, api.ErrMany, climb(by, via(0, 1, -by), via(1, 0, 0))...)
	}
	// the way back is left out: by a number, by the lowest bit, by others
	checkFar(t, 0, api.ErrMany, climb(2, only(longVia(0, 1, -300000), 300001))...)
	checkFar(t, 0, api.ErrMany, climb(3, only(longVia(0, 1, -300000), 300001))...)
	for _, bit := range []int{1, 64, 1 << 15} {
		back := longVia(0, 1, -4*bit)
		back.F.Want, back.F.Mask = bit, bit|1<<28|1<<27|1<<26|1<<25|1<<24|1<<23|1<<22|1<<21|1<<20|1<<19
		up := climb(bit*2, back)
		checkFar(t, 0, api.ErrMany, up...)
		checkFar(t, bit, api.ErrRound, up...)
	}
}

// TestFarDense: all numbers lead on, up and down.
func TestFarDense(t *testing.T) {
	const half = 1 << 28
	checkFar(t, 0, api.ErrRound, climb(1, longVia(1, 0, -1000003))...)
	checkFar(t, 5, api.ErrRound, climb(123456789, longVia(0, 1, -234567891))...)
	checkFar(t, 5, api.ErrRound, climb(half-1, longVia(0, 1, -half+10))...)
	// what is left between where it can go up and where it can go down is come to
	checkFar(t, 5, api.ErrMany, climb(half+1000, longVia(0, 1, -half+1))...)
	// up below the half, down above it
	up, down := longVia(0, 1, 1000), longVia(0, 1, -1001)
	up.F.Mask, down.F.Mask, down.F.Want = half, half, half
	checkFar(t, 0, api.ErrRound, up, down, longVia(1, 0, 0))
	down.F.Mask |= 1
	down.F.Want |= 1
	checkFar(t, 0, api.ErrMany, up, down, longVia(1, 0, 0))
}

// regional has routes by chance that let in no numbers but those whose bits above
// size are as those of near: most lead up, and few down.
func regional(r *rand.Rand, near, size int) []api.Route {
	var l []api.Route
	for range 3 + r.Intn(9) {
		from := r.Intn(3)
		x := longVia(from, (from+1+r.Intn(2))%3, r.Intn(40))
		x.F.Want, x.F.Mask = near&^(size-1)|r.Intn(size), api.MaxLong&^(size-1)
		switch r.Intn(4) {
		case 0:
			x.Add = -r.Intn(size / 2)
			x.F.Mask |= (size - 1) &^ (1 << r.Intn(16))
		case 1:
			x.Add = r.Intn(100) - 20
			x.F.Mask |= 1<<r.Intn(16)&(size-1) | 1<<r.Intn(16)&(size-1)
		}
		l = append(l, x)
	}
	return l
}

// TestFarSecond: rounds that aren't near, and none, by chance, against the second way.
func TestFarSecond(t *testing.T) {
	r := rand.New(rand.NewSource(45))
	told := map[api.Errno]int{}
	for told[api.ErrRound] < 15 || told[api.ErrMany] < 15 {
		size := 1 << (13 + r.Intn(3))
		f := long(r.Intn(api.MaxLong))
		l, bus := regional(r, f.ID, size), r.Intn(3)
		f.ID &^= size - 1
		if w := webOf(l, bus, f); goesRound(w) || len(w.places) < near {
			continue
		}
		if r.Intn(2) == 0 {
			l, f.ID = turned(l), api.MaxLong-f.ID
		}
		_, want := second(l, bus, f)
		if got, e := Spread(l, bus, f); e != want || got != nil {
			t.Fatalf("Spread(%+v, %d, %v): %d lines, %d, want none, %d", l, bus, f, len(got), e, want)
		}
		told[want]++
	}
}

// wideRoutes has routes by chance whose numbers to add are of all sizes, up and down,
// and that ask for few bits, or for one number.
func wideRoutes(r *rand.Rand) []api.Route {
	var l []api.Route
	for range 2 + r.Intn(9) {
		from := r.Intn(4)
		x := longVia(from, (from+1+r.Intn(3))%4, (r.Intn(2*api.MaxLong+1)-api.MaxLong)>>r.Intn(29))
		if r.Intn(3) == 0 {
			x.F.Want, x.F.Mask = r.Intn(api.MaxLong), 1<<r.Intn(29)|1<<r.Intn(29)
		}
		if r.Intn(4) == 0 {
			x = only(x, r.Intn(api.MaxLong))
		}
		l = append(l, x)
	}
	return l
}

// leadsTo has the places to which the routes of l carry a Long frame from a place.
func leadsTo(l []api.Route, p place) []place {
	var out []place
	for _, r := range l {
		if f, is := carry(r, p.bus, long(p.id)); is {
			out = append(out, place{r.To, f.ID})
		}
	}
	return out
}

// TestSureCells: from where it is sure that a round comes, a route leads to such a
// place again.
func TestSureCells(t *testing.T) {
	r := rand.New(rand.NewSource(46))
	seen := 0
	for range 40 {
		l := longRoutes(wideRoutes(r))
		c := sureCells(l)
		for range 1000 {
			p := place{r.Intn(4), r.Intn(api.MaxLong + 1)}
			if !c.has(p) {
				continue
			}
			seen++
			if !slices.ContainsFunc(leadsTo(l, p), c.has) {
				t.Fatalf("%+v: %v is sure, but leads to none that is", l, p)
			}
		}
	}
	if seen < 1000 {
		t.Errorf("only %d places were sure", seen)
	}
}

// TestSlope: from where there is said to be no round, all routes lead higher, and to
// where there is none.
func TestSlope(t *testing.T) {
	r := rand.New(rand.NewSource(47))
	seen := 0
	for range 2000 {
		l := longRoutes(wideRoutes(r))
		if r.Intn(2) == 0 {
			l = longRoutes(turned(l))
		}
		s := slopeOf(l)
		for range 50 {
			p := place{r.Intn(4), r.Intn(api.MaxLong + 1)}
			if s.mayGoRound(p.bus, p.id) {
				continue
			}
			for _, to := range leadsTo(l, p) {
				seen++
				if s.mayGoRound(to.bus, to.id) || s.height(to.bus, to.id) <= s.height(p.bus, p.id) {
					t.Fatalf("%+v: no round is behind %v, but one may be behind %v", l, p, to)
				}
			}
		}
	}
	if seen < 1000 {
		t.Errorf("only %d places were behind others", seen)
	}
}
