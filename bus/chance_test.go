package bus

import (
	"cmp"
	"fmt"
	"math"
	"math/rand"
	"slices"
	"testing"

	"omnibus/api"
)

// bit is 1 of what holds.
func bit(is bool) int {
	if is {
		return 1
	}
	return 0
}

// plainName is the Name of f.
func plainName(f api.Frame) string {
	if f.Long {
		return fmt.Sprintf("%011b11%018b%d", f.ID>>18, f.ID%(1<<18), bit(f.Remote))
	}
	return fmt.Sprintf("%011b%d0", f.ID, bit(f.Remote))
}

// plainIn tells whether one of l lets f in: bit by bit.
func plainIn(l []api.Filter, f api.Frame) bool {
	for _, x := range l {
		in := x.Long == f.Long
		for i := range 29 {
			in = in && (x.Mask>>i%2 == 0 || x.Want>>i%2 == f.ID>>i%2)
		}
		if in {
			return true
		}
	}
	return false
}

// bad is n behind an error while it sent.
func bad(n api.Node) api.Node {
	n.H.Sent = min(n.H.Sent+8, 256)
	return n
}

// plainSend is what becomes of n, which another one's frame comes to.
func plainSend(n api.Node, f api.Frame, well bool) api.Node {
	switch {
	case n.H.Sent == 256:
		return n
	case !well:
		n.H.Got = min(n.H.Got+1, 255)
		return n
	case n.H.Got > 127:
		n.H.Got = 126
	case n.H.Got > 0:
		n.H.Got--
	}
	if plainIn(n.Filters, f) {
		n.Got = append(slices.Clone(n.Got), f)
		if len(n.Got) == 17 {
			n.Got = n.Got[1:]
		}
	}
	return n
}

// plainGo is Go of controllers that may be; is tells whether a frame was sent well.
func plainGo(l []api.Node, spoilt bool) (out []api.Node, who int, f api.Frame, is bool, e api.Errno) {
	who, others, same := -1, 0, false
	for i, n := range l {
		if n.H.Sent == 256 {
			continue
		}
		others++
		if len(n.Queue) == 0 {
			continue
		}
		ahead := -1
		if who >= 0 {
			ahead = cmp.Compare(plainName(n.Queue[0]), plainName(l[who].Queue[0]))
		}
		if ahead < 0 {
			who, same = i, false
		}
		same = same || ahead == 0
	}
	if same {
		return nil, 0, api.Frame{}, false, api.ErrTwice
	}
	if who < 0 {
		return l, -1, api.Frame{}, false, api.OK
	}
	out = slices.Clone(l)
	is = !spoilt && others > 1
	first := l[who].Queue[0]
	for i, n := range l {
		if i != who {
			out[i] = plainSend(n, first, is)
		}
	}
	switch {
	case is:
		out[who].Queue = l[who].Queue[1:]
		out[who].H.Sent = max(l[who].H.Sent-1, 0)
		return out, who, first, true, api.OK
	case spoilt || max(l[who].H.Sent, l[who].H.Got) < 128:
		out[who] = bad(l[who])
	}
	return out, who, api.Frame{}, false, api.OK
}

// plainPut is q with f behind all whose Name doesn't come behind its.
func plainPut(q []api.Frame, f api.Frame) []api.Frame {
	q = append(slices.Clone(q), f)
	slices.SortStableFunc(q, func(a, b api.Frame) int { return cmp.Compare(plainName(a), plainName(b)) })
	return q
}

// plainRest is l behind eleven bits of rest.
func plainRest(l []api.Node) []api.Node {
	l = slices.Clone(l)
	for i := range l {
		switch {
		case l[i].H.Sent == 256 && l[i].H.Rest == 127:
			l[i].H = api.Health{}
		case l[i].H.Sent == 256:
			l[i].H.Rest++
		}
	}
	return l
}

// plainRun is Run of controllers and of happenings whose frames may be.
func plainRun(l []api.Node, s []api.Happening) (out []api.Node, told [][]api.Frame, at int, e api.Errno) {
	for i, h := range s {
		if h.Kind < 1 || h.Kind > 5 || h.Node < 0 || h.Node >= len(l) {
			return nil, nil, i, api.ErrWho
		}
		l = slices.Clone(l)
		n := &l[h.Node]
		var tell []api.Frame
		switch h.Kind {
		case 1:
			if len(n.Queue) == 16 {
				return nil, nil, i, api.ErrFull
			}
			n.Queue = plainPut(n.Queue, h.F)
		case 2, 3:
			next, _, f, is, e := plainGo(l, h.Kind == 3)
			if e != api.OK {
				return nil, nil, i, e
			}
			if is {
				tell = frames(f)
			}
			l = next
		case 4:
			l = plainRest(l)
		case 5:
			tell, n.Got = n.Got, nil
		}
		told = append(told, tell)
	}
	return l, told, 0, api.OK
}

// pool is what frames and controllers by chance are made of: tag counts those that
// were made, which is told in their bytes.
type pool struct {
	*rand.Rand
	tag int
}

// frame has a frame by chance, of one of so many numbers.
func (r *pool) frame(numbers int) api.Frame {
	r.tag++
	f := api.Frame{ID: r.Intn(numbers), Data: []byte{byte(r.tag >> 8), byte(r.tag)}}
	switch r.Intn(8) {
	case 0:
		f.Remote, f.Data, f.Size = true, nil, r.Intn(9)
	case 1:
		f.Fast, f.Data = true, append(f.Data, make([]byte, 62)...)
	}
	if r.Intn(4) == 0 {
		f.Long = true
		f.ID = f.ID<<18 + r.Intn(2)
	}
	return f
}

// queue has a Queue by chance.
func (r *pool) queue(n, numbers int) []api.Frame {
	var q []api.Frame
	for range r.Intn(n + 1) {
		q = plainPut(q, r.frame(numbers))
	}
	return q
}

// got has frames by chance, in no order.
func (r *pool) got(n, numbers int) []api.Frame {
	var l []api.Frame
	for range r.Intn(n + 1) {
		l = append(l, r.frame(numbers))
	}
	return l
}

// filters has Filters by chance.
func (r *pool) filters() []api.Filter {
	var l []api.Filter
	for range r.Intn(4) {
		x := api.Filter{Want: r.Intn(2048), Mask: r.Intn(2048) & r.Intn(2048) & r.Intn(2048)}
		if r.Intn(3) == 0 {
			x = api.Filter{Want: x.Want << 18, Mask: x.Mask << 18, Long: true}
		}
		l = append(l, x)
	}
	return l
}

// healths are some that are at an edge.
var healths = []api.Health{
	{}, {}, {}, {Sent: 120}, {Sent: 127}, {Sent: 128}, {Got: 127}, {Got: 128}, {Got: 255}, {Sent: 247}, {Sent: 248, Got: 254}, {Sent: 255},
	{Sent: 256}, {Sent: 256, Got: 128, Rest: 100}, {Sent: 256, Rest: 125}, {Sent: 256, Rest: 127},
}

// nodes has controllers by chance.
func (r *pool) nodes(numbers int) []api.Node {
	var l []api.Node
	for range r.Intn(api.MaxNodes + 1) {
		n := api.Node{H: healths[r.Intn(len(healths))], Filters: r.filters()}
		n.Queue = r.queue(r.Intn(17), numbers)
		n.Got = r.got(r.Intn(17), numbers)
		l = append(l, n)
	}
	return l
}

// script has so many happenings by chance for so many controllers.
func (r *pool) script(n, nodes, numbers int) []api.Happening {
	var l []api.Happening
	for range n {
		h := api.Happening{Kind: []int{1, 1, 2, 2, 2, 3, 4, 4, 5}[r.Intn(9)], Node: r.Intn(max(nodes, 1)), N: r.Intn(9) - 4}
		if h.Kind == api.Queue || r.Intn(5) == 0 {
			h.F = r.frame(numbers)
		}
		l = append(l, h)
	}
	if r.Intn(12) == 0 && n > 0 {
		l[r.Intn(n)] = wrongHappenings()[r.Intn(len(wrongHappenings()))]
	}
	return l
}

// sizes are how many numbers frames have: few, so that two often have one name, and
// many.
var sizes = []int{1, 3, 20, 200, 2048}

// TestPlainGo: Go answers what the plain one does.
func TestPlainGo(t *testing.T) {
	r := &pool{Rand: rand.New(rand.NewSource(17))}
	seen := map[string]int{}
	for n := range 12000 {
		l, spoilt := r.nodes(sizes[n%len(sizes)]), r.Intn(3) == 0
		out, who, f, e := Go(l, spoilt)
		wantOut, wantWho, wantF, is, wantE := plainGo(l, spoilt)
		if text(all(out, who, f, e)) != text(all(wantOut, wantWho, wantF, wantE)) {
			t.Fatalf("Go(%+v, %t):\n%+v %d %+v %d, want\n%+v %d %+v %d", l, spoilt, out, who, f, e, wantOut, wantWho, wantF, wantE)
		}
		seen[fmt.Sprint(e, is, who < 0, spoilt)]++
	}
	for _, x := range []string{"0 true false false", "0 false false false", "0 false false true", "0 false true true", "0 false true false", "9 false false true", "9 false false false"} {
		if seen[x] < 100 {
			t.Errorf("too few of a kind: %v", seen)
		}
	}
}

// TestPlainRun: Run answers what the plain one does, and the same at once and in two
// parts.
func TestPlainRun(t *testing.T) {
	r := &pool{Rand: rand.New(rand.NewSource(170))}
	seen := [api.ErrLost + 1]int{}
	for n := range 4000 {
		l := r.nodes(sizes[n%len(sizes)])
		s := r.script(r.Intn(api.MaxSteps+1), len(l), sizes[n%len(sizes)])
		out, told, at, e := Run(l, s)
		seen[e]++
		if got, want := text(all(out, told, at, e)), text(all(plainRun(l, s))); got != want {
			t.Fatalf("Run(%+v, %+v):\n%s, want\n%s", l, s, got, want)
		}
		if e != api.OK {
			continue
		}
		k := r.Intn(len(s) + 1)
		half, first, _, _ := Run(l, s[:k])
		whole, second, _, _ := Run(half, s[k:])
		if text(all(whole, append(first, second...))) != text(all(out, told)) {
			t.Fatalf("Run(%+v, %+v) isn't the same in two parts, at %d", l, s, k)
		}
	}
	if min(seen[api.OK], seen[api.ErrWho], seen[api.ErrTwice], seen[api.ErrFull]) < 50 {
		t.Errorf("too few of a kind: %v", seen)
	}
}

// count is how often f is in l, byte by byte.
func count(l []api.Frame, f api.Frame) int {
	n := 0
	for _, x := range l {
		n += bit(text(x) == text(f))
	}
	return n
}

// steps has the controllers ahead of each happening, and behind all of them.
func steps(t *testing.T, l []api.Node, s []api.Happening) ([][]api.Node, [][]api.Frame, bool) {
	t.Helper()
	states := [][]api.Node{l}
	var told [][]api.Frame
	for _, h := range s {
		out, one, _, e := Run(l, script(h))
		if e != api.OK {
			return nil, nil, false
		}
		l = out
		states = append(states, out)
		told = append(told, one...)
	}
	out, whole, _, e := Run(states[0], s)
	if e != api.OK || text(out) != text(l) || text(whole) != text(told) {
		t.Fatalf("Run(%+v, %+v) isn't what it is one by one", states[0], s)
	}
	return states, told, true
}

// isSentWell tells whether from became to since f was sent well: one Queue alone
// lost it, and just those have it that aren't Off and let it in.
func isSentWell(from, to []api.Node, f api.Frame) bool {
	senders := 0
	for i, n := range from {
		sent := len(n.Queue) - len(to[i].Queue)
		senders += sent
		if sent != 0 && (sent != 1 || n.H.Sent == 256 || text(n.Queue) != text(append(frames(f), to[i].Queue...))) {
			return false
		}
		got := n.Got
		if sent == 0 && n.H.Sent != 256 && plainIn(n.Filters, f) {
			got = append(slices.Clone(got), f)
			got = got[max(0, len(got)-16):]
		}
		if sent == 0 && text(n.Queue) != text(to[i].Queue) || text(got) != text(to[i].Got) {
			return false
		}
	}
	return senders == 1
}

// isKept tells whether nothing was lost or had of h, by which nothing was sent well:
// but what h put, or took.
func isKept(from, to []api.Node, h api.Happening) bool {
	for i, n := range from {
		queue, got := n.Queue, n.Got
		if h.Kind == api.Queue && h.Node == i {
			queue = plainPut(queue, h.F)
		}
		if h.Kind == api.Take && h.Node == i {
			got = nil
		}
		if text(queue) != text(to[i].Queue) || text(got) != text(to[i].Got) {
			return false
		}
	}
	return true
}

// TestEachStep: by each happening just that is lost of a Queue that was sent well,
// and whoever isn't Off and lets it in has it.
func TestEachStep(t *testing.T) {
	r := &pool{Rand: rand.New(rand.NewSource(171))}
	well, bad := 0, 0
	for n := range 800 {
		l := r.nodes([]int{20, 200, 2048}[n%3])
		s := r.script(r.Intn(40), len(l), 2048)
		states, told, is := steps(t, l, s)
		if !is {
			continue
		}
		for i, h := range s {
			sends := h.Kind == api.Go || h.Kind == api.Spoil
			switch {
			case sends && len(told[i]) == 1 && isSentWell(states[i], states[i+1], told[i][0]):
				well++
			case (!sends || len(told[i]) == 0) && isKept(states[i], states[i+1], h):
				bad += bit(sends)
			default:
				t.Fatalf("%+v: from\n%+v to\n%+v, told %+v", h, states[i], states[i+1], told[i])
			}
		}
	}
	if min(well, bad) < 500 {
		t.Errorf("too few of a kind: %d %d", well, bad)
	}
}

// tagged has controllers that have got nothing yet, and frames that are all
// different: none of them is Remote.
func (r *pool) tagged() []api.Node {
	l := r.nodes(2048)
	for i := range l {
		l[i].Queue = slices.DeleteFunc(l[i].Queue, func(f api.Frame) bool { return f.Remote })
		l[i].Got = nil
	}
	return l
}

// story is what became of all frames of a script.
type story struct {
	put, gone, left []api.Frame   // what was to be sent, was sent well, and is in a Queue yet
	due, took       [][]api.Frame // of each controller: what it was to have, and had
}

// storyOf is the story of s, by the controllers ahead of each happening and behind
// all of them.
func storyOf(s []api.Happening, states [][]api.Node, told [][]api.Frame) story {
	end := states[len(s)]
	x := story{due: make([][]api.Frame, len(end)), took: make([][]api.Frame, len(end))}
	for i, n := range states[0] {
		x.put = append(x.put, n.Queue...)
		x.left = append(x.left, end[i].Queue...)
		x.took[i] = append(x.took[i], end[i].Got...)
	}
	for i, h := range s {
		switch h.Kind {
		case api.Queue:
			x.put = append(x.put, h.F)
		case api.Take:
			x.took[h.Node] = append(x.took[h.Node], told[i]...)
		case api.Go:
			x.gone = append(x.gone, told[i]...)
			for _, f := range told[i] {
				for k, n := range states[i] {
					if n.H.Sent != 256 && plainIn(n.Filters, f) && count(n.Queue, f) == 0 {
						x.due[k] = append(x.due[k], f)
					}
				}
			}
		}
	}
	return x
}

// TestOnce: over a whole script each frame is in a Queue yet, or was sent well, once;
// and then it was had once by each other one that wasn't Off and lets it in, and by
// no other one.
func TestOnce(t *testing.T) {
	r := &pool{Rand: rand.New(rand.NewSource(172))}
	sent, had, missed := 0, 0, 0
	for range 800 {
		l := r.tagged()
		s := slices.DeleteFunc(r.script(30, len(l), 2048), func(h api.Happening) bool { return h.F.Remote })
		states, told, is := steps(t, l, s)
		if !is {
			continue
		}
		x := storyOf(s, states, told)
		for _, f := range x.put {
			gone := count(x.gone, f)
			if gone+count(x.left, f) != 1 {
				t.Fatalf("%+v %+v: %+v went %d times, and is in a Queue %d times", l, s, f, gone, count(x.left, f))
			}
			for k := range l {
				took := count(x.took[k], f)
				// Of one that was to have more than there is room for some may be lost.
				if len(x.due[k]) <= api.MaxQueue && took != count(x.due[k], f) {
					t.Fatalf("%+v %+v: %d had %+v %d times", l, s, k, f, took)
				}
				had += took
				missed += bit(gone == 1 && took == 0)
			}
		}
		if len(x.gone)+len(x.left) != len(x.put) {
			t.Fatalf("%+v %+v: %d put, %d went, %d are there yet", l, s, len(x.put), len(x.gone), len(x.left))
		}
		sent += len(x.gone)
	}
	if min(sent, had, missed) < 500 {
		t.Errorf("too few of a kind: %d %d %d", sent, had, missed)
	}
}

// TestAnything: no call panics, whatever it is given.
func TestAnything(t *testing.T) {
	r := &pool{Rand: rand.New(rand.NewSource(173))}
	numbers := []int{math.MinInt, -1, 0, 1, 5, 6, 17, 127, 128, 248, 255, 256, 257, 2047, 2048, api.MaxLong, api.MaxLong + 1, math.MaxInt}
	number := func() int { return numbers[r.Intn(len(numbers))] }
	spoil := func(f *api.Frame) {
		*[]*int{&f.ID, &f.Size}[r.Intn(2)] = number()
		*[]*bool{&f.Long, &f.Fast, &f.Remote}[r.Intn(3)] = r.Intn(2) == 0
		f.Data = make([]byte, []int{0, 1, 8, 9, 64, 65}[r.Intn(6)])
	}
	for range 20000 {
		l := r.nodes(20)
		s := r.script(r.Intn(9), len(l), 20)
		for i := range l {
			n := &l[i]
			if r.Intn(4) == 0 {
				*[]*int{&n.H.Sent, &n.H.Got, &n.H.Rest}[r.Intn(3)] = number()
			}
			if len(n.Queue) > 0 && r.Intn(4) == 0 {
				spoil(&n.Queue[r.Intn(len(n.Queue))])
			}
			if len(n.Got) > 0 && r.Intn(4) == 0 {
				spoil(&n.Got[r.Intn(len(n.Got))])
			}
			if r.Intn(4) == 0 {
				n.Filters = append(n.Filters, api.Filter{Want: number(), Mask: number(), Long: r.Intn(2) == 0})
			}
		}
		for i := range s {
			if r.Intn(4) == 0 {
				*[]*int{&s[i].Kind, &s[i].Node}[r.Intn(2)] = number()
				spoil(&s[i].F)
			}
		}
		e := Check(l)
		_, _, _, sent := Go(l, r.Intn(2) == 0)
		out, told, at, ran := Run(l, s)
		if e != api.OK && (sent != e || ran != e) || e == api.OK && sent != api.OK && sent != api.ErrTwice {
			t.Fatalf("%+v %+v: %d %d %d", l, s, e, sent, ran)
		}
		if ran == api.OK && (Check(out) != api.OK || len(told) != len(s) || at != 0) || ran != api.OK && (out != nil || told != nil) {
			t.Fatalf("%+v %+v: %+v %+v %d %d", l, s, out, told, at, ran)
		}
	}
}
