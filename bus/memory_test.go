package bus

import (
	"math/rand"
	"slices"
	"testing"

	"omnibus/api"
)

var (
	frameMark  = api.Frame{ID: 77, Size: 77}
	filterMark = api.Filter{Want: 77, Mask: 77}
	nodeMark   = api.Node{H: api.Health{Sent: 77}}
	deedMark   = api.Happening{Kind: 77, Node: 77}
)

// roomy has what l has, with marked room behind it.
func roomy[T any](l []T, mark T) []T {
	out := append(make([]T, 0, len(l)+3), l...)
	for i := len(l); i < cap(out); i++ {
		out[:cap(out)][i] = mark
	}
	return out
}

// all of l, with the room behind it.
func whole[T any](l []T) []T { return l[:cap(l)] }

// scrawl fills all that l has, and the room behind it.
func scrawl[T any](l []T, mark T) {
	for i := range whole(l) {
		whole(l)[i] = mark
	}
}

// roomyFrames has l, with room behind all of its lists.
func roomyFrames(l []api.Frame) []api.Frame {
	l = roomy(l, frameMark)
	for i := range l {
		l[i].Data = roomy(l[i].Data, 77)
	}
	return l
}

// roomyNodes has l, with room behind all of its lists.
func roomyNodes(l []api.Node) []api.Node {
	l = roomy(l, nodeMark)
	for i := range l {
		l[i].Queue = roomyFrames(l[i].Queue)
		l[i].Filters = roomy(l[i].Filters, filterMark)
		l[i].Got = roomyFrames(l[i].Got)
	}
	return l
}

// roomyScript has s, with room behind all of its lists.
func roomyScript(s []api.Happening) []api.Happening {
	s = roomy(s, deedMark)
	for i := range s {
		s[i].F.Data = roomy(s[i].F.Data, 77)
	}
	return s
}

// places has where all lists of an answer, or of what is handed in, lie, the room
// behind them, too.
type places struct {
	known  map[any]bool
	shared bool // one of them is there twice
}

// note puts the places of l to p.
func note[T any](p *places, l []T) {
	if p.known == nil {
		p.known = map[any]bool{}
	}
	for i := range whole(l) {
		at := any(&whole(l)[i])
		p.shared = p.shared || p.known[at]
		p.known[at] = true
	}
}

func noteFrames(p *places, l []api.Frame) {
	note(p, l)
	for _, f := range l {
		note(p, f.Data)
	}
}

func noteNodes(p *places, l []api.Node) {
	note(p, l)
	for _, n := range l {
		noteFrames(p, n.Queue)
		note(p, n.Filters)
		noteFrames(p, n.Got)
	}
}

// textOfFrames is all that l has, what lies behind its lists, too.
func textOfFrames(l []api.Frame) string {
	out := text(whole(l))
	for _, f := range l {
		out += text(whole(f.Data))
	}
	return out
}

// textOf is all that l and s have, what lies behind their lists, too.
func textOf(l []api.Node, s []api.Happening) string {
	out := text(whole(l)) + text(whole(s))
	for _, n := range l {
		out += textOfFrames(n.Queue) + text(whole(n.Filters)) + textOfFrames(n.Got)
	}
	for _, h := range s {
		out += text(whole(h.F.Data))
	}
	return out
}

// scrawlAll fills all lists of l, and the room behind them.
func scrawlAll(l []api.Node) {
	for _, n := range l {
		scrawlFrames(n.Queue)
		scrawl(n.Filters, filterMark)
		scrawlFrames(n.Got)
	}
	scrawl(l, nodeMark)
}

func scrawlFrames(l []api.Frame) {
	for _, f := range l {
		scrawl(f.Data, 99)
	}
	scrawl(l, frameMark)
}

// memoryCase is a bus and a script.
type memoryCase struct {
	l []api.Node
	s []api.Happening
}

// memoryCases are right ones and wrong ones.
func memoryCases() []memoryCase {
	full := having(listening(has(numbered(16)...)), numbered(16)...)
	few := having(listening(has(short(50, 1, 2), short(51, 3))), short(60, 4), short(61))
	silent := with(few, api.Health{Sent: 256, Rest: 127})
	twice := nodes(few, few)
	s := script(passes, puts(1, short(49, 9, 9)), spoils, passes, takes(1), takes(0), rests, passes, passes, puts(0, long(5, 7)))
	out := []memoryCase{
		{nil, nil},
		{nodes(), script()},
		{nodes(few), s},
		{nodes(few, full), s},
		{nodes(silent, full, few), s},
		{nodes(full, few, hears(allShort), silent, silent, listening(has(long(1, 1), long(1, 2)))), s},
		{twice, s},
		{nodes(few, full, with(few, api.Health{Sent: -1})), s},
		{make([]api.Node, api.MaxNodes+1), s},
		{nodes(few, full), script(passes, puts(0, short(-1, 1, 2)))},
		{nodes(few, full), script(passes, puts(1, short(5, 1, 2)), puts(1, short(5, 1, 2)), puts(1, short(6, 1)))},
		{nodes(few, full), make([]api.Happening, api.MaxSteps+1)},
		{nodes(few, full), append(slices.Clone(s), takes(9))},
		{nodes(has(short(6, 1), short(5, 2)), few), s},
	}
	r := &pool{Rand: rand.New(rand.NewSource(174))}
	for range 300 {
		l := r.nodes(300)
		out = append(out, memoryCase{l, r.script(r.Intn(30), len(l), 300)})
	}
	return out
}

// TestHandedIn: no call changes what is handed in, nor the room behind it.
func TestHandedIn(t *testing.T) {
	for i, x := range memoryCases() {
		l, s := roomyNodes(x.l), roomyScript(x.s)
		before := textOf(l, s)
		Check(l)
		Go(l, false)
		Go(l, true)
		Run(l, s)
		if after := textOf(l, s); after != before {
			t.Errorf("case %d: %s became %s", i, before, after)
		}
	}
}

// TestApart: no list of an answer shares anything with what was handed in, with
// another list of the answer, or with another answer.
func TestApart(t *testing.T) {
	held := 0
	for i, x := range memoryCases() {
		l, s := roomyNodes(x.l), roomyScript(x.s)
		var p places
		noteNodes(&p, l)
		note(&p, s)
		for _, h := range s {
			note(&p, h.F.Data)
		}
		for range 2 {
			for _, spoilt := range []bool{false, true} {
				out, _, f, _ := Go(l, spoilt)
				noteNodes(&p, out)
				note(&p, f.Data)
			}
			out, told, _, _ := Run(l, s)
			noteNodes(&p, out)
			note(&p, told)
			for _, y := range told {
				noteFrames(&p, y)
				held += len(y)
			}
		}
		if p.shared {
			t.Errorf("case %d: %+v shares memory", i, x)
		}
	}
	if held < 300 {
		t.Errorf("no more than %d frames were told", held)
	}
}

// TestPlaces: the test above sees what is shared, behind a list, too.
func TestPlaces(t *testing.T) {
	l := numbered(4)
	other := nodes(having(has(l[0]), l[1:2]...))
	for i, x := range []struct {
		a, b []api.Frame
		want bool
	}{
		{l[:2:2], l[2:], false},
		{l[:2], l[2:], true},
		{l[:2:2], l[1:], true},
		{l, numbered(4), false},
		{l, slices.Clone(l), true}, // their Data
	} {
		var p places
		noteFrames(&p, x.a)
		noteFrames(&p, x.b)
		if p.shared != x.want {
			t.Errorf("case %d: %t", i, p.shared)
		}
	}
	var p places
	noteNodes(&p, other)
	noteFrames(&p, l)
	if !p.shared {
		t.Error("what controllers have isn't seen")
	}
}

// TestAnswersStay: what was answered doesn't change with what was handed in, nor
// what was handed in with the answer.
func TestAnswersStay(t *testing.T) {
	for i, x := range memoryCases() {
		l, s := roomyNodes(x.l), roomyScript(x.s)
		gone, who, f, e := Go(l, false)
		out, told, at, ran := Run(l, s)
		answer := all(gone, who, f, e, out, told, at, ran)
		before := text(answer)
		scrawlAll(l)
		for _, h := range s {
			scrawl(h.F.Data, 99)
		}
		scrawl(s, deedMark)
		if after := text(answer); after != before {
			t.Errorf("case %d: %s became %s", i, before, after)
		}

		l, s = roomyNodes(x.l), roomyScript(x.s)
		handed := textOf(l, s)
		gone, _, f, _ = Go(l, false)
		out, told, _, _ = Run(l, s)
		scrawlAll(gone)
		scrawl(f.Data, 99)
		scrawlAll(out)
		for _, y := range told {
			scrawlFrames(y)
		}
		if after := textOf(l, s); after != handed {
			t.Errorf("case %d: %s became %s with the answer", i, handed, after)
		}
		if again := text(answerOf(x)); again != before {
			t.Errorf("case %d: first %s, then %s", i, before, again)
		}
	}
}

// answerOf is what Go and Run answer to x.
func answerOf(x memoryCase) []any {
	gone, who, f, e := Go(x.l, false)
	out, told, at, ran := Run(x.l, x.s)
	return all(gone, who, f, e, out, told, at, ran)
}
