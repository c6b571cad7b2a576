package message

import (
	"fmt"
	"math"
	"math/big"
	"math/rand"
	"slices"
	"testing"

	"omnibus/api"
	"omnibus/frame"
)

// means is a reading, written shortly.
func means(name string, num, den int) api.Reading { return api.Reading{Name: name, Num: num, Den: den} }

// told is a list of readings, written shortly.
func told(l ...api.Reading) []api.Reading { return l }

// sent is a frame of the message of of, with these bytes.
func sent(data ...byte) api.Frame { return api.Frame{ID: 100, Data: data} }

// scaled gives a signal another meaning.
func scaled(s api.Signal, mul, div, add int) api.Signal {
	s.Mul, s.Div, s.Add = mul, div, add
	return s
}

// signed makes a signal one with numbers below 0.
func signed(s api.Signal) api.Signal {
	s.Signed = true
	return s
}

// motor has a Chooser that isn't the first signal, one signal that is always
// there, and others by the raw numbers 0, 1, 1 and 3. Its Chooser means something
// else than its raw number.
func motor() api.Message {
	m := of(2,
		part("heat", 8, 8, 0),
		signed(part("load", 8, 4, 1)),
		scaled(part("which", 0, 2, -1), -1, 2, 10),
		scaled(part("speed", 16, 8, -1), 1, 4, 0),
		part("gear", 12, 4, 1),
		part("last", 8, 1, 3))
	m.Size = 3
	return m
}

// checkRead holds what is read against want.
func checkRead(t *testing.T, m api.Message, f api.Frame, want []api.Reading) {
	t.Helper()
	if l, e := Read(m, f); !slices.Equal(l, want) || e != api.OK {
		t.Errorf("Read(%+v, %+v): %v %d, want %v", m, f, l, e, want)
	}
}

func TestRead(t *testing.T) {
	checkRead(t, of(-1), sent(make([]byte, 8)...), nil)
	empty := of(-1)
	empty.Size = 0
	checkRead(t, empty, sent(), nil)
	checkRead(t, empty, sent(1, 2, 3), nil)

	two := of(-1, part("b", 8, 8, -1), scaled(part("a", 0, 8, -1), 5, 10, -1))
	two.Size = 2
	checkRead(t, two, sent(7, 255), told(means("b", 255, 1), means("a", 5, 2)))
	checkRead(t, two, sent(2, 0), told(means("b", 0, 1), means("a", 0, 1)))
	// a signal that could choose doesn't, unless it is the Chooser
	two.Chooser = 1
	checkRead(t, two, sent(7, 255), told(means("b", 255, 1), means("a", 5, 2)))
}

func TestReadChosen(t *testing.T) {
	m := motor()
	checkRead(t, m, sent(0, 0xf9, 6), told(means("heat", 0xf9, 1), means("which", 10, 1), means("speed", 3, 2)))
	checkRead(t, m, sent(1, 0xf9, 6), told(means("load", -7, 1), means("which", 19, 2), means("speed", 3, 2), means("gear", 15, 1)))
	checkRead(t, m, sent(2, 0xf9, 6), told(means("which", 9, 1), means("speed", 3, 2)))
	checkRead(t, m, sent(3, 0xf9, 6), told(means("which", 17, 2), means("speed", 3, 2), means("last", 1, 1)))
	// bits that are no signal's don't matter
	checkRead(t, m, sent(0xfe, 0xf9, 6), told(means("which", 9, 1), means("speed", 3, 2)))

	// the greatest raw number of the greatest Chooser
	full := of(0, part("c", 56, 8, -1), part("a", 0, 8, 255), part("b", 0, 8, 254), part("d", 0, 8, 0))
	for _, c := range []struct {
		raw  byte
		name string
	}{{255, "a"}, {254, "b"}, {0, "d"}} {
		checkRead(t, full, sent(9, 0, 0, 0, 0, 0, 0, c.raw), told(means("c", int(c.raw), 1), means(c.name, 9, 1)))
	}
	checkRead(t, full, sent(9, 0, 0, 0, 0, 0, 0, 1), told(means("c", 1, 1)))
}

// TestReadKinds: of a Long message, of a Fast frame, of one with more bytes.
func TestReadKinds(t *testing.T) {
	m := motor()
	want := told(means("which", 9, 1), means("speed", 3, 2))
	checkRead(t, m, sent(2, 0, 6, 255, 255, 255, 255, 255), want)
	checkRead(t, m, api.Frame{ID: 100, Fast: true, Data: []byte{2, 0, 6}}, want)
	checkRead(t, m, api.Frame{ID: 100, Fast: true, Data: append([]byte{2, 0, 6}, make([]byte, 61)...)}, want)
	m.Long, m.ID = true, api.MaxLong
	checkRead(t, m, api.Frame{ID: api.MaxLong, Long: true, Data: []byte{2, 0, 6}}, want)
}

func TestReadWrong(t *testing.T) {
	long := motor()
	long.Long = true
	empty := of(-1)
	empty.Size = 0
	for _, c := range []struct {
		m    api.Message
		f    api.Frame
		want api.Errno
	}{
		{motor(), api.Frame{ID: 101, Data: make([]byte, 3)}, api.ErrWho},
		{motor(), api.Frame{ID: 99, Data: make([]byte, 3)}, api.ErrWho},
		{motor(), api.Frame{ID: 100, Long: true, Data: make([]byte, 3)}, api.ErrWho},
		{long, api.Frame{ID: 100, Data: make([]byte, 3)}, api.ErrWho},
		{motor(), api.Frame{ID: 100, Remote: true}, api.ErrWho},
		{motor(), api.Frame{ID: 100, Remote: true, Size: 3}, api.ErrWho},
		{empty, api.Frame{ID: 100, Remote: true}, api.ErrWho},
		{motor(), sent(), api.ErrShort},
		{motor(), sent(0), api.ErrShort},
		{motor(), sent(0, 0), api.ErrShort},
		{of(-1), sent(0, 0, 0, 0, 0, 0, 0), api.ErrShort},
		{of(-1), api.Frame{ID: 100, Fast: true, Data: make([]byte, 7)}, api.ErrShort},
		// another one is told ahead of too few bytes
		{motor(), api.Frame{ID: 101}, api.ErrWho},
		{motor(), api.Frame{ID: 100, Long: true}, api.ErrWho},
	} {
		if l, e := Read(c.m, c.f); l != nil || e != c.want {
			t.Errorf("Read(%+v, %+v): %v %d, want %d", c.m, c.f, l, e, c.want)
		}
		if f, e := Repack(c.m, good(), c.f); !isNothing(f) || e != c.want {
			t.Errorf("Repack(%+v, good, %+v): %+v %d, want %d", c.m, c.f, f, e, c.want)
		}
	}
	for _, c := range wrongFrames {
		for _, m := range []api.Message{motor(), of(-1), good()} {
			if l, e := Read(m, c.f); l != nil || e != c.e {
				t.Errorf("Read(%+v, %+v): %v %d, want %d", m, c.f, l, e, c.e)
			}
			if f, e := Repack(m, good(), c.f); !isNothing(f) || e != c.e {
				t.Errorf("Repack(%+v, good, %+v): %+v %d, want %d", m, c.f, f, e, c.e)
			}
		}
	}
}

// checkWrite holds the bytes that are written, in whatever order it is told,
// against want.
func checkWrite(t *testing.T, m api.Message, l []api.Reading, want ...byte) {
	t.Helper()
	turned := slices.Clone(l)
	for range max(len(l), 1) {
		f, e := Write(m, turned)
		if !frame.Same(f, api.Frame{ID: m.ID, Long: m.Long, Data: want}) || e != api.OK {
			t.Errorf("Write(%+v, %v): %+v %d, want %x", m, turned, f, e, want)
		}
		if len(l) > 0 {
			turned = append(turned[1:], turned[0])
		}
	}
}

func TestWrite(t *testing.T) {
	checkWrite(t, of(-1), nil, make([]byte, 8)...)
	checkWrite(t, of(-1), told(), make([]byte, 8)...)
	checkWrite(t, good(), nil)
	m := motor()
	checkWrite(t, m, told(means("heat", 0xf9, 1), means("which", 10, 1), means("speed", 3, 2)), 0, 0xf9, 6)
	checkWrite(t, m, told(means("load", -7, 1), means("which", 19, 2), means("speed", 3, 2), means("gear", 15, 1)), 1, 0xf9, 6)
	checkWrite(t, m, told(means("which", 9, 1), means("speed", 3, 2)), 2, 0, 6)
	checkWrite(t, m, told(means("which", 17, 2), means("speed", 0, 1), means("last", 1, 1)), 3, 1, 0)
	// not in lowest terms
	checkWrite(t, m, told(means("which", 180, 20), means("speed", 9, 6)), 2, 0, 6)
	m.ID, m.Long = api.MaxLong, true
	checkWrite(t, m, told(means("which", 9, 1), means("speed", 3, 2)), 2, 0, 6)

	back := of(-1, part("a", 7, 12, -1))
	back.Signals[0].Back, back.Size = true, 2
	checkWrite(t, back, told(means("a", 0x123, 1)), 0x12, 0x30)
}

func TestWriteWrong(t *testing.T) {
	which, speed, heat := means("which", 10, 1), means("speed", 3, 2), means("heat", 1, 1)
	one := means("which", 19, 2) // then load and gear are there
	load, gear := means("load", 1, 1), means("gear", 1, 1)
	for _, c := range []struct {
		l    []api.Reading
		want api.Errno
	}{
		{told(), api.ErrLost},
		{told(speed, heat), api.ErrLost},
		{told(which, heat), api.ErrLost},
		{told(which, speed), api.ErrLost},
		{told(one, speed, gear), api.ErrLost},
		{told(one, speed, load), api.ErrLost},
		// names are told byte by byte
		{told(which, speed, means("Heat", 1, 1)), api.ErrLost},
		{told(which, speed, means("", 1, 1)), api.ErrLost},
		// twice: the same, or not
		{told(which, speed, heat, heat), api.ErrTwice},
		{told(which, means("heat", 2, 1), speed, heat), api.ErrTwice},
		{told(which, which, speed, heat), api.ErrTwice},
		{told(which, speed, heat, means("x", 1, 1), means("x", 1, 1)), api.ErrTwice},
		{told(means("", 0, 0), means("", 0, 0)), api.ErrTwice},
		// something else
		{told(which, speed, heat, means("x", 1, 1)), api.ErrWho},
		{told(means("", 0, 0), which, speed, heat), api.ErrWho},
		{told(which, speed, heat, load), api.ErrWho},
		{told(which, speed, heat, means("last", 1, 0)), api.ErrWho},
		{told(one, speed, load, gear, heat), api.ErrWho},
		{told(means("which", 9, 1), speed, heat), api.ErrWho},
		// Raw's errors, of the Chooser and of others
		{told(means("which", 10, 0), speed, heat), api.ErrRange},
		{told(means("which", 10, 1000001), speed, heat), api.ErrRange},
		{told(means("which", 1<<40+1, 1), speed, heat), api.ErrRange},
		{told(means("which", 31, 3), speed, heat), api.ErrForm},
		{told(means("which", 8, 1), speed, heat), api.ErrRange},
		{told(means("which", 21, 2), speed, heat), api.ErrRange},
		{told(which, means("speed", 3, -2), heat), api.ErrRange},
		{told(which, means("speed", -1<<40-1, 1), heat), api.ErrRange},
		{told(which, means("speed", 1, 3), heat), api.ErrForm},
		{told(which, means("speed", 64, 1), heat), api.ErrRange},
		{told(which, means("speed", -1, 4), heat), api.ErrRange},
		{told(which, speed, means("heat", 256, 1)), api.ErrRange},
		{told(which, speed, means("heat", 1, 2)), api.ErrForm},
		{told(one, speed, means("load", 8, 1), gear), api.ErrRange},
		{told(one, speed, means("load", -9, 1), gear), api.ErrRange},
		{told(which, means("speed", math.MinInt, math.MinInt), heat), api.ErrRange},
		{told(which, means("speed", math.MaxInt, math.MaxInt), heat), api.ErrRange},
	} {
		if f, e := Write(motor(), c.l); !isNothing(f) || e != c.want {
			t.Errorf("Write(%v): %+v %d, want %d", c.l, f, e, c.want)
		}
	}
}

// TestWriteOrder: two errors at a time. The Chooser is the third signal, and yet
// its errors are told ahead of those of the others.
func TestWriteOrder(t *testing.T) {
	which, speed, heat := means("which", 10, 1), means("speed", 3, 2), means("heat", 1, 1)
	x := means("x", 1, 1)
	for _, c := range []struct {
		l    []api.Reading
		want api.Errno
	}{
		// twice ahead of all
		{told(x, x), api.ErrTwice},
		{told(heat, heat, means("which", 31, 3)), api.ErrTwice},
		// the Chooser lost, and something of another
		{told(means("heat", 1, 2), speed), api.ErrLost},
		{told(heat, means("speed", 64, 1), x), api.ErrLost},
		// the Chooser wrong, and another lost
		{told(means("which", 31, 3)), api.ErrForm},
		{told(means("which", 8, 1), x), api.ErrRange},
		{told(means("which", 31, 3), means("heat", 256, 1), speed), api.ErrForm},
		// of the others the first of the signals, not of what is told
		{told(means("speed", 64, 1), which, means("heat", 1, 2)), api.ErrForm},
		{told(means("speed", 1, 3), which, means("heat", 256, 1)), api.ErrRange},
		{told(means("speed", 1, 3), which), api.ErrLost},
		{told(which, means("heat", 1, 2)), api.ErrForm},
		// of one signal the size of what is told ahead of its form, and that ahead of its room
		{told(which, speed, means("heat", 1<<41+1, 2)), api.ErrRange},
		{told(which, speed, means("heat", 513, 2)), api.ErrForm},
		// what else is told last
		{told(x, which, means("heat", 1, 2), speed), api.ErrForm},
		{told(x, which, heat), api.ErrLost},
		{told(x, which, heat, means("speed", 64, 1)), api.ErrRange},
	} {
		if f, e := Write(motor(), c.l); !isNothing(f) || e != c.want {
			t.Errorf("Write(%v): %+v %d, want %d", c.l, f, e, c.want)
		}
	}
}

// TestWriteMany: as many readings as one likes are taken in, and told to be too
// many, or twice.
func TestWriteMany(t *testing.T) {
	var l []api.Reading
	for i := range 100000 {
		l = append(l, means(fmt.Sprint("r", i), 1, 1))
	}
	if f, e := Write(good(), l); !isNothing(f) || e != api.ErrWho {
		t.Errorf("many: %+v %d", f, e)
	}
	if f, e := Write(good(), append(l, l[0])); !isNothing(f) || e != api.ErrTwice {
		t.Errorf("many, the first twice: %+v %d", f, e)
	}
}

// checkRepack holds the bytes that are packed anew against want.
func checkRepack(t *testing.T, from, to api.Message, f api.Frame, want ...byte) {
	t.Helper()
	out, e := Repack(from, to, f)
	if !frame.Same(out, api.Frame{ID: to.ID, Long: to.Long, Data: want}) || e != api.OK {
		t.Errorf("Repack(%+v, %+v, %+v): %+v %d, want %x", from, to, f, out, e, want)
	}
}

// other is a message with another number and these signals.
func other(size, chooser int, l ...api.Signal) api.Message {
	return api.Message{ID: 3000, Long: true, Name: "o", Size: size, Chooser: chooser, Signals: l}
}

func TestRepack(t *testing.T) {
	m := motor()
	f := sent(1, 0xf9, 6) // load -7, which 19/2, speed 3/2, gear 15
	checkRepack(t, m, good(), f)
	checkRepack(t, m, other(2, -1), f, 0, 0)
	// fewer signals, at other places, with other meanings
	checkRepack(t, m, other(2, -1, part("gear", 3, 4, -1)), f, 0x78, 0)
	checkRepack(t, m, other(2, -1, scaled(part("speed", 8, 8, -1), 1, 2, 1)), f, 0, 1)
	checkRepack(t, m, other(2, -1, scaled(signed(part("load", 0, 16, -1)), 1, 100, 0)), f, 0x44, 0xfd)
	// more signals: those that aren't told are 0
	checkRepack(t, m, other(3, -1, part("new", 0, 8, -1), part("gear", 8, 8, -1), part("heat", 16, 8, -1)), f, 0, 15, 0)
	checkRepack(t, m, other(1, -1, scaled(part("new", 0, 8, -1), 1, 1, -5)), f, 0)
	// names are told byte by byte
	checkRepack(t, m, other(1, -1, part("Gear", 0, 8, -1)), f, 0)
	// the message's name doesn't matter, nor a signal's Key
	checkRepack(t, m, other(2, 0, part("c", 0, 1, -1), part("gear", 8, 8, 0)), f, 0, 15)
	// more bytes than the message has
	checkRepack(t, m, other(1, -1, part("gear", 0, 8, -1)), api.Frame{ID: 100, Fast: true, Data: append([]byte{1, 0xf9, 6}, make([]byte, 13)...)}, 15)
}

// TestRepackNot: a meaning that Raw doesn't take leaves the bits 0, and only its.
func TestRepackNot(t *testing.T) {
	m := motor()
	f := sent(1, 0xf9, 6) // load -7, which 19/2, speed 3/2, gear 15
	for _, s := range []api.Signal{
		part("speed", 0, 8, -1),                         // no whole number
		part("load", 0, 8, -1),                          // below 0
		signed(part("load", 0, 3, -1)),                  // no room
		part("gear", 0, 3, -1),                          // no room
		scaled(part("gear", 0, 8, -1), 1, 1, 16),        // below what it can be
		scaled(part("gear", 0, 8, -1), 7, 1, 0),         // between two
		scaled(part("gear", 0, 8, -1), 1, 1000000, 0),   // no room, by far
		scaled(part("gear", 0, 8, -1), 1, 1, -1000000),  // no room, by far
		scaled(part("gear", 0, 8, -1), -1, 1, -1000000), // no room, by far
	} {
		checkRepack(t, m, other(2, -1, s, part("gear2", 8, 4, -1)), f, 0, 0)
		rest := signed(part("load", 8, 8, -1))
		if s.Name == "load" {
			rest = part("gear", 8, 8, -1)
			checkRepack(t, m, other(2, -1, s, rest), f, 0, 15)
			continue
		}
		checkRepack(t, m, other(2, -1, s, rest), f, 0, 0xf9)
	}
	// what is above 2^40 in size isn't taken, though it has room
	big := of(-1, scaled(part("a", 0, 40, -1), 4, 1, 0), part("b", 40, 8, -1))
	checkRepack(t, big, big, sent(0, 0, 0, 0, 0x40, 9, 0, 0), 0, 0, 0, 0, 0x40, 9, 0, 0)
	checkRepack(t, big, big, sent(1, 0, 0, 0, 0x40, 9, 0, 0), 0, 0, 0, 0, 0, 9, 0, 0)
}

// TestRepackChosen: to's own Chooser says which of to's signals are there.
func TestRepackChosen(t *testing.T) {
	m := motor()
	one, zero := sent(1, 0xf9, 6), sent(0, 0xf9, 6)
	// the Chooser is told by m, and isn't the first signal
	to := other(2, 2, part("gear", 8, 8, 1), part("heat", 8, 8, 0), scaled(part("which", 0, 8, -1), -1, 2, 10))
	checkRepack(t, m, to, one, 1, 15)
	checkRepack(t, m, to, zero, 0, 0xf9)
	checkRepack(t, m, to, sent(2, 0xf9, 6), 2, 0)
	// other Keys for the same meanings: which is 19/2, so its raw number is 19
	to = other(2, 0, scaled(part("which", 0, 8, -1), 1, 2, 0), part("gear", 8, 4, 19), part("heat", 8, 8, 20))
	checkRepack(t, m, to, one, 19, 15)
	checkRepack(t, m, to, zero, 20, 0xf9)
	// it is told, but Raw doesn't take it: what is there by 0 is there
	to = other(2, 0, part("which", 0, 8, -1), part("gear", 8, 4, 0), part("heat", 8, 8, 10))
	checkRepack(t, m, to, one, 0, 15)
	checkRepack(t, m, to, zero, 10, 0xf9)
	// another one, that isn't told
	to = other(2, 0, part("mode", 0, 8, -1), part("gear", 8, 4, 0), part("heat", 8, 8, 1))
	checkRepack(t, m, to, one, 0, 15)
	checkRepack(t, m, to, zero, 0, 0)
	// another one, that is told only sometimes: gear, which is 15
	to = other(2, 0, part("gear", 0, 8, -1), part("heat", 8, 8, 0), signed(part("load", 8, 8, 15)))
	checkRepack(t, m, to, one, 15, 0xf9)
	checkRepack(t, m, to, zero, 0, 0xf9)
	// what is there in to by its Key isn't told in m's data: it is 0
	to = other(2, 0, part("c", 0, 8, -1), part("heat", 8, 8, 0))
	checkRepack(t, m, to, one, 0, 0)
	// a message without a Chooser
	checkRepack(t, of(-1, part("a", 0, 8, -1), part("c", 8, 8, -1)), other(2, 0, part("c", 0, 8, -1), part("a", 8, 8, 5)), sent(9, 5, 0, 0, 0, 0, 0, 0), 5, 9)
}

// TestRepackOrder: to's error ahead of from's, and that ahead of f's.
func TestRepackOrder(t *testing.T) {
	noName, noSize := good(), good()
	noName.Name, noSize.Size = "", 9
	for _, c := range []struct {
		from, to api.Message
		f        api.Frame
		want     api.Errno
	}{
		{noName, noSize, api.Frame{ID: 7}, api.ErrRange},
		{noSize, noName, api.Frame{ID: 7}, api.ErrText},
		{noName, good(), api.Frame{ID: -1}, api.ErrText},
		{good(), noName, api.Frame{ID: -1}, api.ErrText},
		{good(), good(), api.Frame{ID: 8, Data: make([]byte, 9)}, api.ErrMany},
		{motor(), good(), api.Frame{ID: 8}, api.ErrWho},
		{motor(), good(), sent(), api.ErrShort},
		{motor(), noSize, sent(), api.ErrRange},
	} {
		if f, e := Repack(c.from, c.to, c.f); !isNothing(f) || e != c.want {
			t.Errorf("Repack(%+v, %+v, %+v): %+v %d, want %d", c.from, c.to, c.f, f, e, c.want)
		}
	}
}

// roomy has the same things with spare room behind them, marked.
func roomy(l []api.Signal) []api.Signal {
	out := append(slices.Clone(l), part("spare", 1, 2, 3))
	return out[:len(l)]
}

// TestMemory: what is handed in isn't changed, nor the spare room behind it, and
// two answers to the same share nothing.
func TestMemory(t *testing.T) {
	m, to := motor(), other(2, 1, part("gear", 8, 8, 15), scaled(part("which", 0, 8, -1), 1, 2, 0))
	m.Signals, to.Signals = roomy(m.Signals), roomy(to.Signals)
	all := append([]api.Message{m, to}, good())[:2]
	data := []byte{1, 0xf9, 6, 77}[:3]
	f := api.Frame{ID: 100, Data: data}
	l := append(told(means("load", -7, 1), means("which", 19, 2), means("speed", 3, 2), means("gear", 15, 1)), means("spare", 1, 1))[:4]
	show := func() string {
		return fmt.Sprintf("%+v %+v %+v %v %v %v %v", m, to, all[:3], m.Signals[:len(m.Signals)+1], to.Signals[:len(to.Signals)+1], data[:4], l[:5])
	}
	before := show()

	Check(m)
	CheckAll(all)
	Find(all, f)
	read, e := Read(m, f)
	again, _ := Read(m, f)
	if e != api.OK || !slices.Equal(read, l) {
		t.Fatalf("read: %v %d", read, e)
	}
	read[0].Num = 99
	if !slices.Equal(again, l) {
		t.Error("two readings share memory")
	}
	written, e := Write(m, l)
	second, _ := Write(m, l)
	if e != api.OK || !frame.Same(written, f) {
		t.Fatalf("write: %v %d", written, e)
	}
	written.Data[0] = 99
	written.Data = append(written.Data, 1)
	if !frame.Same(second, f) {
		t.Error("two frames share memory")
	}
	for _, p := range [][2]api.Message{{m, to}, {m, m}} {
		out, e := Repack(p[0], p[1], f)
		twin, _ := Repack(p[0], p[1], f)
		if e != api.OK || out.ID != p[1].ID {
			t.Fatalf("repack: %v %d", out, e)
		}
		kept := slices.Clone(twin.Data)
		for i := range out.Data {
			out.Data[i] ^= 255
		}
		if !slices.Equal(twin.Data, kept) {
			t.Error("two frames share memory")
		}
	}
	// with errors, too
	Write(m, l[:2])
	Write(m, append(slices.Clone(l), l[0]))
	Repack(to, m, f)
	if after := show(); after != before {
		t.Errorf("changed:\n%s\n%s", before, after)
	}
}

// TestNothing: of zero values, no call panics.
func TestNothing(t *testing.T) {
	var m api.Message
	var f api.Frame
	checkTold(t, m, api.ErrText)
	m.Name = "m"
	checkTold(t, m, api.ErrWho) // its Chooser is the signal 0, and there is none
	m.Chooser = -1
	checkTold(t, m, api.OK)
	checkRead(t, m, f, nil)
	checkWrite(t, m, nil)
	checkRepack(t, m, m, f)
	if i, e := Find([]api.Message{m}, f); i != 0 || e != api.OK {
		t.Errorf("Find: %d %d", i, e)
	}
}

// rawOf is the raw number of a signal, bit by bit.
func rawOf(s api.Signal, data []byte) int {
	l := places(s)
	if !s.Back {
		slices.Reverse(l)
	}
	raw := 0
	for _, at := range l { // that which counts most first
		raw = 2*raw + int(data[at/8]>>(at%8)&1)
	}
	if s.Signed && data[l[0]/8]>>(l[0]%8)&1 == 1 {
		raw -= 1 << s.Size
	}
	return raw
}

// meaning is what a message means by fractions of any size, in the signals' order.
func meaning(m api.Message, data []byte) []api.Reading {
	var out []api.Reading
	for _, s := range m.Signals {
		if s.Key >= 0 && rawOf(m.Signals[m.Chooser], data) != s.Key {
			continue
		}
		v := big.NewRat(int64(rawOf(s, data)), 1)
		v.Mul(v, big.NewRat(int64(s.Mul), int64(s.Div)))
		v.Add(v, big.NewRat(int64(s.Add), 1))
		out = append(out, means(s.Name, int(v.Num().Int64()), int(v.Denom().Int64())))
	}
	return out
}

// randomMessage is one that Check takes: signals are put to it as long as it does.
func randomMessage(r *rand.Rand) api.Message {
	m := api.Message{ID: r.Intn(2048), Name: "m", Long: r.Intn(2) == 0, Size: 1 + r.Intn(8), Chooser: -1}
	if r.Intn(3) > 0 {
		c := part("Z", r.Intn(8*m.Size), 1+r.Intn(3), -1)
		c.Back, c.Mul, c.Div, c.Add = r.Intn(2) == 0, 1+r.Intn(3), 1+r.Intn(3), r.Intn(5)-2
		m.Signals, m.Chooser = []api.Signal{c}, 0
	}
	if Check(m) != api.OK {
		return randomMessage(r)
	}
	for range 2 * api.MaxSignals {
		at := r.Intn(len(m.Signals) + 1)
		next := m
		next.Signals = slices.Insert(slices.Clone(m.Signals), at, randomSignal(r, m.Size))
		if at <= m.Chooser {
			next.Chooser++
		}
		if Check(next) == api.OK {
			m = next
		}
	}
	return m
}

// randomData has n bytes.
func randomData(r *rand.Rand, n int) []byte {
	data := make([]byte, n)
	r.Read(data)
	return data
}

// TestRoundTrips: Read against another way; Write of what is read, told in any
// order, is read the same; Repack of a message to itself means the same.
func TestRoundTrips(t *testing.T) {
	r := rand.New(rand.NewSource(2))
	chosen, hidden := 0, 0
	for range 4000 {
		m := randomMessage(r)
		for range 5 {
			data := randomData(r, m.Size+r.Intn(9-m.Size))
			f := api.Frame{ID: m.ID, Long: m.Long, Data: data}
			want := meaning(m, data)
			checkRead(t, m, f, want)
			chosen += min(m.Chooser+1, 1)
			hidden += len(m.Signals) - len(want)

			mixed := slices.Clone(want)
			r.Shuffle(len(mixed), func(i, j int) { mixed[i], mixed[j] = mixed[j], mixed[i] })
			out, e := Write(m, mixed)
			if e != api.OK || out.ID != m.ID || out.Long != m.Long || len(out.Data) != m.Size || frame.Check(out) != api.OK {
				t.Fatalf("Write(%+v, %v): %+v %d", m, mixed, out, e)
			}
			checkRead(t, m, out, want)
			checkOthers(t, m, out.Data)

			packed, e := Repack(m, m, f)
			if e != api.OK || !frame.Same(packed, out) {
				t.Fatalf("Repack(%+v, itself, %+v): %+v %d, want %+v", m, f, packed, e, out)
			}
			if t.Failed() {
				t.FailNow()
			}
		}
	}
	if chosen < 5000 || hidden < 20000 {
		t.Errorf("only %d with a Chooser, %d signals that aren't there", chosen, hidden)
	}
}

// checkOthers looks that no bit is 1 that is no bit of a signal that is there.
func checkOthers(t *testing.T, m api.Message, data []byte) {
	t.Helper()
	rest := slices.Clone(data)
	for _, s := range m.Signals {
		if s.Key == -1 || rawOf(m.Signals[m.Chooser], data) == s.Key {
			for _, at := range places(s) {
				rest[at/8] &^= 1 << (at % 8)
			}
		}
	}
	for _, b := range rest {
		if b != 0 {
			t.Errorf("%+v: %x has bits that are no signal's", m, data)
			return
		}
	}
}

// TestRepackMany: each signal of the new message means what one of its name meant,
// or its bits are 0 and nothing that it could be means that.
func TestRepackMany(t *testing.T) {
	r := rand.New(rand.NewSource(3))
	kept, lost := 0, 0
	for range 10000 {
		from, to := randomMessage(r), randomMessage(r)
		f := api.Frame{ID: from.ID, Long: from.Long, Data: randomData(r, from.Size)}
		out, e := Repack(from, to, f)
		if e != api.OK || out.ID != to.ID || out.Long != to.Long || len(out.Data) != to.Size {
			t.Fatalf("Repack(%+v, %+v, %+v): %+v %d", from, to, f, out, e)
		}
		was := meaning(from, f.Data)
		for _, now := range meaning(to, out.Data) {
			i := slices.IndexFunc(was, func(x api.Reading) bool { return x.Name == now.Name })
			if i >= 0 && was[i] == now {
				kept++
				continue
			}
			lost++
			s := to.Signals[slices.IndexFunc(to.Signals, func(s api.Signal) bool { return s.Name == now.Name })]
			if rawOf(s, out.Data) != 0 || i >= 0 && canMean(s, was[i]) {
				t.Fatalf("Repack(%+v, %+v, %+v): %+v: %v of %v", from, to, f, out, now, was)
			}
		}
		checkOthers(t, to, out.Data)
	}
	if kept < 1000 || lost < 1000 {
		t.Errorf("only %d kept, %d lost", kept, lost)
	}
}

// canMean tries all raw numbers of a signal.
func canMean(s api.Signal, r api.Reading) bool {
	for n := range 1 << s.Size {
		if s.Signed {
			n -= 1 << (s.Size - 1)
		}
		if (n*s.Mul+s.Add*s.Div)*r.Den == r.Num*s.Div {
			return true
		}
	}
	return false
}
