package route

import (
	"cmp"
	"slices"

	"omnibus/api"
	"omnibus/frame"
)

// near is how many places are kept, with all that leads from one to another. Short
// frames have fewer; of Long ones there may be some two thousand millions, too many
// for that.
const near = 10 * api.MaxBits

// place is a frame on a bus. All that comes of one frame is like it but for the
// number (a route leaves Long as it is, too), so that no more is needed here.
type place struct{ bus, id int }

// web is what comes of a frame: the places that are come to, the nearest ahead, and
// by their numbers which of them each one is carried on to.
type web struct {
	places []place
	next   [][]int
}

// Spread has all that comes of f on a bus when each frame is carried on by all
// routes of l.
func Spread(l []api.Route, bus int, f api.Frame) ([]api.Line, api.Errno) {
	if _, e := New(l); e != api.OK {
		return nil, e
	}
	if e := frame.Check(f); e != api.OK {
		return nil, e
	}
	if !isBus(bus) {
		return nil, api.ErrRange
	}
	w := webOf(l, bus, f)
	isAll := len(w.places) < near // so it is of each short frame
	switch {
	case goesRound(w), !isAll && goesRoundFar(l, w.places):
		return nil, api.ErrRound
	case len(w.places) > api.MaxBits:
		return nil, api.ErrMany
	}
	// The first one is f itself, which is carried on as the others are, but didn't come.
	return linesOf(w.places[1:], f), api.OK
}

// webOf is what comes of f on a bus, but no more than the nearest places.
func webOf(l []api.Route, bus int, f api.Frame) web {
	var w web
	numbers := map[place]int{}
	numberOf := func(p place) (int, bool) {
		n, known := numbers[p]
		if !known && len(w.places) < near {
			n, known = len(w.places), true
			numbers[p] = n
			w.places = append(w.places, p)
		}
		return n, known
	}
	numberOf(place{bus, f.ID})
	for at := 0; at < len(w.places); at++ {
		from := w.places[at]
		f.ID = from.id
		var next []int
		for _, r := range l {
			carried, is := carry(r, from.bus, f)
			if !is {
				continue
			}
			if n, known := numberOf(place{r.To, carried.ID}); known {
				next = append(next, n)
			}
		}
		w.next = append(w.next, next)
	}
	return w
}

// goesRound tells whether a place of w leads to itself. Those that nothing leads to
// are taken away, one by one; what goes round stays, with all that is behind it.
func goesRound(w web) bool {
	ahead := make([]int, len(w.places)) // how often each is come to from those that are left
	for _, next := range w.next {
		for _, n := range next {
			ahead[n]++
		}
	}
	// All others are come to from the first one, so that nothing but a round leads to it.
	if ahead[0] > 0 {
		return true
	}
	free := []int{0}
	for at := 0; at < len(free); at++ {
		for _, n := range w.next[free[at]] {
			if ahead[n]--; ahead[n] == 0 {
				free = append(free, n)
			}
		}
	}
	return len(free) < len(w.places)
}

// linesOf has frames that are like f at these places, in order. None is ahead of
// another by being short: either all of them are, or none is.
func linesOf(places []place, f api.Frame) []api.Line {
	var l []api.Line
	for _, p := range places {
		f.ID = p.id
		l = append(l, lineOf(0, p.bus, f))
	}
	slices.SortFunc(l, func(a, b api.Line) int {
		return cmp.Or(cmp.Compare(a.Bus, b.Bus), cmp.Compare(a.F.ID, b.F.ID))
	})
	return l
}
