package bus

import (
	"fmt"
	"math"
	"slices"
	"testing"

	"omnibus/api"
)

// short is a short frame with these bytes.
func short(id int, data ...byte) api.Frame { return api.Frame{ID: id, Data: data} }

// long is a Long frame with these bytes.
func long(id int, data ...byte) api.Frame { return api.Frame{ID: id, Long: true, Data: data} }

// remote is a short frame that asks for so many bytes.
func remote(id, size int) api.Frame { return api.Frame{ID: id, Remote: true, Size: size} }

// fast is a Fast frame with so many bytes, all of them x.
func fast(id, n int, x byte) api.Frame {
	return api.Frame{ID: id, Fast: true, Data: slices.Repeat([]byte{x}, n)}
}

// frames, filters, nodes and script are lists, written shortly.
func frames(l ...api.Frame) []api.Frame         { return l }
func filters(l ...api.Filter) []api.Filter      { return l }
func nodes(l ...api.Node) []api.Node            { return l }
func script(l ...api.Happening) []api.Happening { return l }

// numbered has n short frames, one number behind the other.
func numbered(n int) []api.Frame {
	var l []api.Frame
	for i := range n {
		l = append(l, short(i+1, byte(i)))
	}
	return l
}

var (
	allShort = api.Filter{}
	allLong  = api.Filter{Long: true}
	off      = api.Health{Sent: 256}
)

// has is a controller that hears nothing, with these frames in its Queue.
func has(q ...api.Frame) api.Node { return api.Node{Queue: q} }

// hears is a controller that has nothing to send, with these Filters.
func hears(l ...api.Filter) api.Node { return api.Node{Filters: l} }

// with makes n be of a health.
func with(n api.Node, h api.Health) api.Node {
	n.H = h
	return n
}

// listening makes n have Filters that let everything in.
func listening(n api.Node) api.Node {
	n.Filters = filters(allShort, allLong)
	return n
}

// having makes n have these frames as Got.
func having(n api.Node, got ...api.Frame) api.Node {
	n.Got = got
	return n
}

// text is x as a text: lists that have nothing in them are alike in it.
func text(x any) string { return fmt.Sprintf("%+v", x) }

// same holds what is told against what should be.
func same(t *testing.T, what string, got, want any) {
	t.Helper()
	if text(got) != text(want) {
		t.Errorf("%s:\n%s, want\n%s", what, text(got), text(want))
	}
}

// fault is a controller that may not be, and which error tells so.
type fault struct {
	n api.Node
	e api.Errno
}

// wrongFrames are frames that can't be sent, and chapter 4's errors.
var wrongFrames = []struct {
	f api.Frame
	e api.Errno
}{
	{short(-1), api.ErrRange},
	{short(2048), api.ErrRange},
	{long(-1), api.ErrRange},
	{long(536870912), api.ErrRange},
	{short(math.MinInt), api.ErrRange},
	{long(math.MaxInt), api.ErrRange},
	{api.Frame{ID: 1, Remote: true, Fast: true}, api.ErrForm},
	{api.Frame{ID: 1, Remote: true, Data: []byte{1}}, api.ErrForm},
	{remote(1, 9), api.ErrRange},
	{remote(1, -1), api.ErrRange},
	{api.Frame{ID: 1, Size: 1}, api.ErrRange},
	{short(1, make([]byte, 9)...), api.ErrMany},
	{fast(1, 65, 0), api.ErrMany},
	{fast(1, 9, 0), api.ErrForm},
}

// faults has each error of chapters 6, 8, 7 and 4 in a controller, in the order in
// which they are told of one: health first, then Queue, Filters, Got.
func faults() [][]fault {
	var healths, queues, sieves, gots []fault
	for _, h := range []api.Health{
		{Sent: -1}, {Sent: 257}, {Got: -1}, {Got: 256}, {Sent: 256, Rest: -1}, {Sent: 256, Rest: 128},
		{Sent: 255, Rest: 1}, {Rest: 127}, {Got: 255, Rest: 1}, {Rest: -1},
		{Sent: math.MinInt}, {Sent: math.MaxInt}, {Got: math.MinInt}, {Got: math.MaxInt},
		{Sent: 256, Rest: math.MinInt}, {Sent: 256, Rest: math.MaxInt},
	} {
		healths = append(healths, fault{api.Node{H: h}, api.ErrRange})
	}
	for _, q := range [][]api.Frame{numbered(17), numbered(18), numbered(1000)} {
		queues = append(queues, fault{api.Node{Queue: q}, api.ErrMany})
		gots = append(gots, fault{api.Node{Got: q}, api.ErrMany})
	}
	for _, q := range [][]api.Frame{
		frames(short(6), short(5)), frames(short(5), short(6), short(5)), frames(remote(5, 0), short(5)),
		frames(long(5<<18), short(5)), frames(long(5), long(4)), frames(fast(6, 1, 0), short(5)),
	} {
		queues = append(queues, fault{api.Node{Queue: q}, api.ErrForm})
	}
	for _, x := range wrongFrames {
		for _, l := range [][]api.Frame{frames(x.f), frames(short(0), x.f), frames(x.f, short(5))} {
			queues = append(queues, fault{api.Node{Queue: l}, x.e})
			gots = append(gots, fault{api.Node{Got: l}, x.e})
		}
		gots = append(gots, fault{api.Node{Got: append(numbered(15), x.f)}, x.e})
	}
	for _, n := range []int{17, 18, 1000} {
		sieves = append(sieves, fault{hears(make([]api.Filter, n)...), api.ErrMany})
	}
	for _, x := range []api.Filter{
		{Want: -1}, {Want: 2048}, {Mask: -1}, {Mask: 2048}, {Long: true, Want: -1}, {Long: true, Want: 536870912},
		{Long: true, Mask: -1}, {Long: true, Mask: 536870912}, {Want: math.MinInt}, {Mask: math.MaxInt},
	} {
		sieves = append(sieves, fault{hears(x), api.ErrRange}, fault{hears(allShort, x), api.ErrRange})
	}
	return [][]fault{healths, queues, sieves, gots}
}

// joined has all that is wrong in a and in b, which are wrong in two ways.
func joined(a, b api.Node) api.Node {
	if b.H != (api.Health{}) {
		a.H = b.H
	}
	return api.Node{
		H:       a.H,
		Queue:   slices.Concat(a.Queue, b.Queue),
		Filters: slices.Concat(a.Filters, b.Filters),
		Got:     slices.Concat(a.Got, b.Got),
	}
}

// right has n controllers that may be.
func right(n int) []api.Node {
	var l []api.Node
	for i := range n {
		x := having(listening(has(short(10*i), short(10*i+1), short(10*i+1, 5))), numbered(api.MaxQueue)...)
		l = append(l, with(x, api.Health{Sent: 51 * i, Got: 255}))
	}
	return l
}

// among puts n at a place among right ones.
func among(n api.Node, at, all int) []api.Node {
	l := right(all)
	l[at] = n
	return l
}

// wrong holds Check's error, and those of Go and Run, which say it first, against
// one; all else must be zero.
func wrong(t *testing.T, l []api.Node, want api.Errno) {
	t.Helper()
	if e := Check(l); e != want {
		t.Errorf("Check(%+v): %d, want %d", l, e, want)
	}
	for _, spoilt := range []bool{false, true} {
		out, who, f, e := Go(l, spoilt)
		if out != nil || who != 0 || text(f) != text(api.Frame{}) || e != want {
			t.Errorf("Go(%+v, %t): %v %d %v %d, want %d", l, spoilt, out, who, f, e, want)
		}
	}
	for _, s := range [][]api.Happening{nil, {{Kind: api.Go}}, {{Kind: -1, Node: -1}}, make([]api.Happening, api.MaxSteps+1)} {
		out, told, at, e := Run(l, s)
		if out != nil || told != nil || at != 0 || e != want {
			t.Errorf("Run(%+v, %d): %v %v %d %d, want %d", l, len(s), out, told, at, e, want)
		}
	}
}

// fine tells whether l may be, and whether Go and Run take it.
func fine(t *testing.T, l []api.Node) {
	t.Helper()
	if e := Check(l); e != api.OK {
		t.Errorf("Check(%+v): %d", l, e)
	}
	if out, _, _, e := Go(l, false); e != api.OK || len(out) != len(l) {
		t.Errorf("Go(%+v): %v %d", l, out, e)
	}
	out, told, at, e := Run(l, nil)
	if text(out) != text(l) || len(told) != 0 || at != 0 || e != api.OK {
		t.Errorf("Run(%+v, nil): %+v %v %d %d", l, out, told, at, e)
	}
}

func TestHowMany(t *testing.T) {
	fine(t, nil)
	fine(t, nodes())
	for n := range api.MaxNodes + 1 {
		fine(t, make([]api.Node, n))
		fine(t, right(n))
	}
	for _, n := range []int{api.MaxNodes + 1, api.MaxNodes + 2, 1000} {
		wrong(t, make([]api.Node, n), api.ErrMany)
		wrong(t, slices.Repeat(nodes(with(has(), api.Health{Sent: -1})), n), api.ErrMany)
	}
}

// TestEdges: controllers that just may be.
func TestEdges(t *testing.T) {
	for _, h := range []api.Health{{}, {Sent: 255, Got: 255}, {Sent: 256}, {Sent: 256, Got: 255, Rest: 127}, {Sent: 127, Got: 128}} {
		fine(t, nodes(with(has(), h)))
	}
	for _, q := range [][]api.Frame{
		{}, numbered(1), numbered(15), numbered(16), slices.Repeat(frames(short(2047, 1)), 16),
		frames(short(5), remote(5, 8), long(5<<18), long(5<<18+1), short(6)), frames(fast(5, 64, 1), short(5)),
		frames(long(0), long(536870911)),
	} {
		fine(t, nodes(has(q...)))
		fine(t, nodes(having(has(), q...)))
	}
	// What came need not stand in the order of names.
	fine(t, nodes(having(has(), short(6), short(5), long(0), remote(5, 0), short(5))))
	for _, l := range [][]api.Filter{
		{}, make([]api.Filter, 16), filters(api.Filter{Want: 2047, Mask: 2047}), filters(api.Filter{Want: 536870911, Mask: 536870911, Long: true}),
	} {
		fine(t, nodes(hears(l...)))
	}
}

// TestWrong: each error in one controller: alone, the first, the last, in the midst.
func TestWrong(t *testing.T) {
	for _, l := range faults() {
		for _, x := range l {
			wrong(t, nodes(x.n), x.e)
			wrong(t, among(x.n, 0, api.MaxNodes), x.e)
			wrong(t, among(x.n, 3, api.MaxNodes), x.e)
			wrong(t, among(x.n, api.MaxNodes-1, api.MaxNodes), x.e)
			wrong(t, append(among(x.n, 0, api.MaxNodes), x.n), api.ErrMany)
		}
	}
}

// TestFirstWrong: of two errors the one that is told first.
func TestFirstWrong(t *testing.T) {
	seen := [api.ErrLost + 1]int{}
	all := faults()
	for i, l := range all {
		for _, x := range l {
			for k, m := range all {
				for _, y := range m {
					if i < k { // in one controller: by what is wrong
						wrong(t, nodes(joined(x.n, y.n)), x.e)
						wrong(t, among(joined(y.n, x.n), 5, api.MaxNodes), x.e)
					}
					if x.e != y.e { // in two: by the controller
						wrong(t, nodes(x.n, y.n), x.e)
						seen[x.e]++
					}
				}
			}
		}
	}
	if min(seen[api.ErrRange], seen[api.ErrMany], seen[api.ErrForm]) < 100 {
		t.Errorf("too few of a kind: %v", seen)
	}
}

// TestFirstFrame: of the frames in Got that are wrong the first one's error; that
// there are too many comes ahead of it, in the Queue, too.
func TestFirstFrame(t *testing.T) {
	for _, x := range wrongFrames {
		for _, y := range wrongFrames {
			l := frames(short(5), x.f, short(0), y.f)
			wrong(t, nodes(having(has(), l...)), x.e)
		}
		wrong(t, nodes(having(has(), append(numbered(16), x.f)...)), api.ErrMany)
		wrong(t, nodes(having(has(), slices.Repeat(frames(x.f), 17)...)), api.ErrMany)
		wrong(t, nodes(has(slices.Repeat(frames(x.f), 17)...)), api.ErrMany)
		wrong(t, nodes(has(short(6), short(5), x.f)), api.ErrForm)
		wrong(t, nodes(has(short(0), x.f, short(0), short(5), short(4))), x.e)
	}
}
