package route

import "omnibus/api"

// A cell is all places of a bus whose numbers have the same highBits at the top and
// the same lowBits at the bottom. It is named by its first place; in the others, some
// of the bits between, those of middle, are set, too.
const (
	lowBits  = 5
	highBits = 13
	idBits   = 29
	middle   = 1<<(idBits-highBits) - 1<<lowBits
)

// cells has some cells, by their bus and their bits.
type cells [api.MaxBuses][1 << highBits][1 << lowBits]bool

// at is where it is kept whether the cell of a place is there.
func (c *cells) at(p place) *bool {
	return &c[p.bus][p.id>>(idBits-highBits)][p.id%(1<<lowBits)]
}

func (c *cells) has(p place) bool { return *c.at(p) }

// sureCells has the cells that a frame never has to leave for others: from each, a
// route leads all of its places to such cells again. There is no end to that, but to
// the places: so there is a round behind each of them.
func sureCells(l []api.Route) *cells {
	c := &cells{}
	c.each(func(p place) { *c.at(p) = true })
	var gone []place
	c.each(func(p place) {
		for gone = c.drop(l, p, gone); len(gone) > 0; {
			last := len(gone) - 1
			gone = c.dropBehind(l, gone[last], gone[:last])
		}
	})
	return c
}

// each does something with each cell, whether it is there or not.
func (c *cells) each(do func(p place)) {
	for bus := range c {
		for high := range c[bus] {
			for low := range c[bus][high] {
				do(place{bus, high<<(idBits-highBits) + low})
			}
		}
	}
}

// drop takes a cell away, if no route leads on from it, and puts it to those that
// are gone.
func (c *cells) drop(l []api.Route, cell place, gone []place) []place {
	if c.has(cell) && !c.goesOn(l, cell) {
		*c.at(cell) = false
		gone = append(gone, cell)
	}
	return gone
}

// dropBehind drops the cells that no route leads on from, now that one is gone.
func (c *cells) dropBehind(l []api.Route, cell place, gone []place) []place {
	for _, r := range l {
		if r.To != cell.bus {
			continue
		}
		// What leads to the cell's places lies no farther apart than these, so that it
		// is in the cells of what leads to its first and to its last one.
		for _, id := range [...]int{cell.id - r.Add, cell.id + middle - r.Add} {
			if isLong(id) {
				gone = c.drop(l, place{r.From, id &^ middle}, gone)
			}
		}
	}
	return gone
}

// goesOn tells whether a route leads all places of a cell to cells of c.
func (c *cells) goesOn(l []api.Route, cell place) bool {
	for i := range l {
		r := &l[i]
		if r.From != cell.bus || r.F.Mask&middle != 0 || cell.id&r.F.Mask != r.F.Want {
			continue
		}
		first, last := place{r.To, cell.id + r.Add}, place{r.To, cell.id + middle + r.Add}
		if isLong(first.id) && isLong(last.id) && c.has(first) && c.has(last) {
			return true
		}
	}
	return false
}
