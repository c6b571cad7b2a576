package route

import (
	"cmp"
	"math/bits"
	"slices"

	"omnibus/api"
)

// Marks of places. One that the walk came to, and has not left again, has underWay
// and the number of the route by which it came.
const (
	unseen byte = iota
	done
	begun
	underWay
)

// page has the marks of places of a bus with numbers next to each other, shelf some
// pages. Both are small, so that a walk with wide steps doesn't need many times as
// much room as it has places.
type (
	page  [1 << pageBits]byte
	shelf [1 << shelfBits]*page
)

const (
	pageBits  = 8
	shelfBits = 9
	shelves   = api.MaxLong>>(pageBits+shelfBits) + 1
)

// walk goes over Long frames from place to place, as deep as it can. There may be
// some two thousand millions of places, so that it keeps a byte of each and no more:
// by that byte it finds its way back, too.
type walk struct {
	routes   []api.Route           // by From
	first    [api.MaxBuses + 1]int // the first route from each bus
	up, down slope
	sure     *cells
	marks    [api.MaxBuses][shelves]*shelf
}

// goesRoundFar tells whether there is a round, however far off, behind a Long frame
// at the first of these places, which all come of it.
func goesRoundFar(l []api.Route, places []place) bool {
	w := walkOver(l)
	if !w.mayGoRound(places[0]) {
		return false
	}
	w.sure = sureCells(w.routes)
	return slices.ContainsFunc(places, w.sure.has) || w.findsRound(places[0])
}

// walkOver is a walk over these routes that isn't begun.
func walkOver(l []api.Route) *walk {
	w := &walk{routes: longRoutes(l)}
	w.up, w.down = slopeOf(w.routes), slopeOf(mirrored(w.routes))
	// Those that let in the least go first: they may lead back, where the others
	// would lead on and on.
	slices.SortStableFunc(w.routes, func(a, b api.Route) int {
		return cmp.Or(cmp.Compare(a.From, b.From), cmp.Compare(asked(b), asked(a)))
	})
	for _, r := range w.routes {
		w.first[r.From+1]++
	}
	for bus := range api.MaxBuses {
		w.first[bus+1] += w.first[bus]
	}
	return w
}

// longRoutes has the routes of l that let in Long frames, Want without the bits that
// Mask hasn't.
func longRoutes(l []api.Route) []api.Route {
	var out []api.Route
	for _, r := range l {
		if r.F.Long {
			r.F.Want &= r.F.Mask
			out = append(out, r)
		}
	}
	return out
}

// asked is how many bits of a number r asks for: the fewer, the more it lets in.
func asked(r api.Route) int { return bits.OnesCount(uint(r.F.Mask)) }

func isLong(id int) bool { return id >= 0 && id <= api.MaxLong }

// mayGoRound tells whether a round may be behind a place.
func (w *walk) mayGoRound(p place) bool {
	return w.up.mayGoRound(p.bus, p.id) && w.down.mayGoRound(p.bus, api.MaxLong-p.id)
}

// mark is where the mark of a place is kept.
func (w *walk) mark(p place) *byte {
	on := &w.marks[p.bus][p.id>>(pageBits+shelfBits)]
	if *on == nil {
		*on = &shelf{}
	}
	at := &(*on)[p.id>>pageBits%len(shelf{})]
	if *at == nil {
		*at = &page{}
	}
	return &(*at)[p.id%len(page{})]
}

// follow is where a route leads from a place of its bus, if a round may be behind it.
func (w *walk) follow(route int, p place) (place, bool) {
	r := &w.routes[route]
	if p.id&r.F.Mask != r.F.Want {
		return place{}, false
	}
	to := place{r.To, p.id + r.Add}
	return to, isLong(to.id) && w.mayGoRound(to)
}

// findsRound tells whether there is a round behind a place: the walk comes to where
// it is still under way, or to where it could go on for ever.
func (w *walk) findsRound(at place) bool {
	*w.mark(at) = begun
	route := w.first[at.bus]
	for {
		if route == w.first[at.bus+1] {
			mark := w.mark(at)
			came := *mark
			*mark = done
			if came == begun {
				return false
			}
			by := int(came - underWay)
			at = place{w.routes[by].From, at.id - w.routes[by].Add}
			route = by + 1
			continue
		}
		to, is := w.follow(route, at)
		if !is {
			route++
			continue
		}
		switch mark := w.mark(to); {
		case *mark == done:
			route++
		case *mark != unseen, w.sure.has(to):
			return true
		default:
			*mark = underWay + byte(route)
			at, route = to, w.first[to.bus]
		}
	}
}
