package route

import (
	"cmp"
	"slices"

	"omnibus/api"
)

// slope tells above which numbers there is no round. A round comes back to its
// number, so that it can't go over routes alone that lead higher and higher; it needs
// one of the others, and behind a place that is higher than all from where these go
// on there is none.
type slope struct {
	depth [api.MaxBuses]int // of each bus, so that the rising routes lead higher
	top   [api.MaxBuses]int // the highest place from where another route is come to
}

// unit is how much a number counts in a height. Each route takes one away, so that
// those that come back to a bus with a number greater by one (there are no more than
// api.MaxBuses of them, no bus being come to twice) still lead higher.
const unit = api.MaxBuses + 1

// nowhere is lower than all places are: no depth is above 0.
const nowhere = -1

// slopeOf is the slope of routes whose Want has no bits beside their Mask's.
func slopeOf(l []api.Route) slope {
	rising, others := parted(l)
	var s slope
	s.depth, _ = depths(rising)
	for bus := range s.top {
		s.top[bus] = nowhere
	}
	highest := func(r api.Route) int { return s.height(r.From, r.F.Want|api.MaxLong&^r.F.Mask) }
	for _, r := range others {
		s.top[r.From] = max(s.top[r.From], highest(r))
	}
	// The best way to another route goes over no bus twice.
	for range api.MaxBuses {
		for _, r := range rising {
			s.top[r.From] = max(s.top[r.From], min(highest(r), s.top[r.To]))
		}
	}
	return s
}

// parted has the routes of l over which all ways round the buses lead to a greater
// number, and the others. Those that let in the most are taken first, so that the
// others let in few.
func parted(l []api.Route) (rising, others []api.Route) {
	l = copied(l)
	slices.SortStableFunc(l, func(a, b api.Route) int { return cmp.Compare(asked(a), asked(b)) })
	for _, r := range l {
		if _, is := depths(append(rising, r)); is {
			rising = append(rising, r)
		} else {
			others = append(others, r)
		}
	}
	return rising, others
}

// depths has a depth of each bus, so that each route of l leads higher, if there are
// such ones.
func depths(l []api.Route) (depth [api.MaxBuses]int, is bool) {
	for range api.MaxBuses + 1 {
		is = true
		for _, r := range l {
			if d := depth[r.From] + unit*r.Add - 1; d < depth[r.To] {
				depth[r.To], is = d, false
			}
		}
	}
	return depth, is
}

// mirrored has the routes of l as they are for numbers that are counted down from
// the last one.
func mirrored(l []api.Route) []api.Route {
	l = copied(l)
	for i, r := range l {
		l[i].Add = -r.Add
		l[i].F.Want = r.F.Mask &^ r.F.Want
	}
	return l
}

// height of a place, which isn't below 0.
func (s *slope) height(bus, id int) int { return unit*id - s.depth[bus] }

// mayGoRound tells whether a round may be behind a place.
func (s *slope) mayGoRound(bus, id int) bool { return s.height(bus, id) <= s.top[bus] }
