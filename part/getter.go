package part

import (
	"bytes"

	"omnibus/api"
)

const maxPart = 8 // bytes of a part of any kind

// CheckGetter tells whether g may be.
func CheckGetter(g api.Getter) api.Errno {
	switch {
	case !within(g.Want, 0, api.MaxMessage) || !within(g.Block, 0, maxBlock) || !within(g.Left, 0, g.Block) || !within(g.Next, 0, numbers-1):
		return api.ErrRange
	case !getterFits(g):
		return api.ErrForm
	}
	return api.OK
}

// getterFits: do the fields of g, each within its bounds, fit together?
func getterFits(g api.Getter) bool {
	size := len(g.Data)
	if g.Want == 0 {
		return size == 0 && g.Next == 0 && g.Left == 0
	}
	if g.Want <= oneMost || size >= g.Want || !betweenParts(size) {
		return false
	}
	return g.Next == numberAt(size) && (g.Left != 0 || g.Block == 0)
}

// Get is g behind a part that came, what it answers, and the message if it is
// whole with that part.
func Get(g api.Getter, part []byte) (out api.Getter, answer, whole []byte, e api.Errno) {
	if e := CheckGetter(g); e != api.OK {
		return api.Getter{}, nil, nil, e
	}
	if len(part) == 0 {
		return api.Getter{}, nil, nil, api.ErrShort
	}
	if len(part) > maxPart {
		return api.Getter{}, nil, nil, api.ErrMany
	}
	switch part[0] >> kindBits {
	case oneKind:
		out, whole, e = getOne(g, part)
		return out, nil, whole, e
	case firstKind:
		out, answer, e = getFirst(g, part)
		return out, answer, nil, e
	case nextKind:
		return getNext(g, part)
	}
	return api.Getter{}, nil, nil, api.ErrWho
}

// idle is g with nothing under way.
func idle(g api.Getter) api.Getter { return api.Getter{Block: g.Block} }

// lower is the number in the lower four bits of a part's first byte.
func lower(part []byte) int { return int(part[0]) % (1 << kindBits) }

// getOne has the message of which part is all; what was under way is lost.
func getOne(g api.Getter, part []byte) (api.Getter, []byte, api.Errno) {
	size := lower(part)
	if !within(size, 1, oneMost) || size != len(part)-1 {
		return api.Getter{}, nil, api.ErrForm
	}
	return idle(g), bytes.Clone(part[1:]), api.OK
}

// getFirst begins anew with part; what was under way is lost even if there is no
// room for what is to come.
func getFirst(g api.Getter, part []byte) (api.Getter, []byte, api.Errno) {
	if len(part) != maxPart {
		return api.Getter{}, nil, api.ErrForm
	}
	size := lower(part)<<8 | int(part[1])
	if size <= oneMost {
		return api.Getter{}, nil, api.ErrForm
	}
	if size > api.MaxMessage {
		return idle(g), partOf(nil, giveUp, 0, 0), api.OK
	}
	out := api.Getter{Want: size, Data: bytes.Clone(part[2:]), Next: firstOne, Block: g.Block, Left: g.Block}
	return out, letThrough(g.Block), api.OK
}

// letThrough is the answer that lets through as many next parts as a block has.
func letThrough(block int) []byte { return partOf(nil, goOn, byte(block), 0) }

// getNext goes on with part.
func getNext(g api.Getter, part []byte) (out api.Getter, answer, whole []byte, e api.Errno) {
	wanting := g.Want - len(g.Data)
	switch {
	case g.Want == 0:
		return api.Getter{}, nil, nil, api.ErrLate
	case lower(part) != g.Next:
		return api.Getter{}, nil, nil, api.ErrLost
	case len(part) != 1+min(wanting, nextMost):
		return api.Getter{}, nil, nil, api.ErrForm
	}
	data := append(bytes.Clone(g.Data), part[1:]...)
	if len(data) == g.Want {
		return idle(g), nil, data, api.OK
	}
	g.Data = data
	g.Next = (g.Next + 1) % numbers
	if g.Block != 0 {
		g.Left--
		if g.Left == 0 {
			g.Left, answer = g.Block, letThrough(g.Block)
		}
	}
	return g, answer, nil, api.OK
}

// Send has what a getter that lets block parts through at a time has at last of
// data, and how many parts went to and fro.
func Send(data []byte, block int) (got []byte, parts int, e api.Errno) {
	if !within(block, 0, maxBlock) {
		return nil, 0, api.ErrRange
	}
	s, p, e := Begin(data)
	if e != api.OK {
		return nil, 0, e
	}
	g, answer, got, e := Get(api.Getter{Block: block}, p)
	parts = 1
	// None of the calls fails, since each has what the other one asked for; one that
	// did would leave zeros, of which Get makes an error, too, and so ends this.
	for e == api.OK && !s.Done {
		if len(answer) > 0 {
			s, _ = Told(s, answer)
			parts++
		}
		s, p, _ = Next(s)
		g, answer, got, e = Get(g, p)
		parts++
	}
	if e != api.OK {
		return nil, 0, e
	}
	return got, parts, api.OK
}
