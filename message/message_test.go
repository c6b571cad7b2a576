package message

import (
	"fmt"
	"math"
	"math/rand"
	"slices"
	"strings"
	"testing"

	"omnibus/api"
	"omnibus/frame"
)

// part is a signal that means its raw number, with so many bits from start on.
func part(name string, start, size, key int) api.Signal {
	return api.Signal{Name: name, Start: start, Size: size, Mul: 1, Div: 1, Key: key}
}

// of is a short message of 8 bytes with these signals.
func of(chooser int, l ...api.Signal) api.Message {
	return api.Message{ID: 100, Name: "m", Size: 8, Chooser: chooser, Signals: l}
}

// row has n signals of four bits, one behind the other, named a, b and so on.
func row(n int) []api.Signal {
	var l []api.Signal
	for i := range n {
		l = append(l, part(string(rune('a'+i)), 4*i, 4, -1))
	}
	return l
}

// with is m with one signal changed.
func with(m api.Message, i int, change func(s *api.Signal)) api.Message {
	m.Signals = slices.Clone(m.Signals)
	change(&m.Signals[i])
	return m
}

// isNothing tells whether a frame is zero, its Data being none at all.
func isNothing(f api.Frame) bool { return frame.Same(f, api.Frame{}) && f.Data == nil }

// good is a message that Check takes, with another name and number than of's.
func good() api.Message { return api.Message{ID: 7, Name: "good", Chooser: -1} }

// checkTold holds Check's error of m, and that of all others which say it first,
// against want; with an error, all else must be zero.
func checkTold(t *testing.T, m api.Message, want api.Errno) {
	t.Helper()
	if e := Check(m); e != want {
		t.Errorf("Check(%+v): %d, want %d", m, e, want)
	}
	if e := CheckAll([]api.Message{m}); e != want {
		t.Errorf("CheckAll(%+v): %d, want %d", m, e, want)
	}
	if want == api.OK {
		return
	}
	if e := CheckAll([]api.Message{good(), m, {}}); e != want {
		t.Errorf("CheckAll(good, %+v, wrong): %d, want %d", m, e, want)
	}
	for _, f := range []api.Frame{{ID: m.ID, Long: m.Long, Data: make([]byte, 8)}, {ID: 1}, {ID: -1}, {ID: 1, Remote: true, Fast: true}} {
		if l, e := Read(m, f); l != nil || e != want {
			t.Errorf("Read(%+v, %+v): %v %d, want %d", m, f, l, e, want)
		}
		if i, e := Find([]api.Message{m}, f); i != 0 || e != want {
			t.Errorf("Find(%+v, %+v): %d %d, want %d", m, f, i, e, want)
		}
		if out, e := Repack(m, good(), f); !isNothing(out) || e != want {
			t.Errorf("Repack(%+v, good, %+v): %+v %d, want %d", m, f, out, e, want)
		}
		for _, from := range []api.Message{good(), m, {}, {Name: "x", ID: -1}} {
			if out, e := Repack(from, m, f); !isNothing(out) || e != want {
				t.Errorf("Repack(%+v, %+v, %+v): %+v %d, want %d", from, m, f, out, e, want)
			}
		}
	}
	for _, l := range [][]api.Reading{nil, {{Name: "a", Num: 1, Den: 1}}, {{Name: "a"}, {Name: "a"}}} {
		if out, e := Write(m, l); !isNothing(out) || e != want {
			t.Errorf("Write(%+v, %+v): %+v %d, want %d", m, l, out, e, want)
		}
	}
}

func TestCheckName(t *testing.T) {
	for _, c := range []struct {
		name string
		want api.Errno
	}{
		{"", api.ErrText},
		{"a", api.OK},
		{"Z9", api.OK},
		{"9a", api.ErrText},
		{"a b", api.ErrText},
		{"a_b", api.ErrText},
		{"\u00e4", api.ErrText},
		{"a\x00", api.ErrText},
		{strings.Repeat("a", api.MaxName), api.OK},
		{strings.Repeat("a", api.MaxName+1), api.ErrText},
	} {
		m := of(-1, row(2)...)
		m.Name = c.name
		checkTold(t, m, c.want)
	}
	// a signal may have the message's name
	checkTold(t, of(-1, part("m", 0, 1, -1)), api.OK)
}

func TestCheckNumber(t *testing.T) {
	for _, c := range []struct {
		id   int
		long bool
		want api.Errno
	}{
		{-1, false, api.ErrRange},
		{0, false, api.OK},
		{api.MaxID, false, api.OK},
		{api.MaxID + 1, false, api.ErrRange},
		{math.MinInt, false, api.ErrRange},
		{math.MaxInt, false, api.ErrRange},
		{-1, true, api.ErrRange},
		{0, true, api.OK},
		{api.MaxID + 1, true, api.OK},
		{api.MaxLong, true, api.OK},
		{api.MaxLong + 1, true, api.ErrRange},
		{math.MinInt, true, api.ErrRange},
		{math.MaxInt, true, api.ErrRange},
	} {
		m := of(-1, row(2)...)
		m.ID, m.Long = c.id, c.long
		checkTold(t, m, c.want)
	}
}

func TestCheckSize(t *testing.T) {
	for _, c := range []struct {
		size int
		want api.Errno
	}{
		{-1, api.ErrRange}, {0, api.OK}, {1, api.OK}, {8, api.OK}, {9, api.ErrRange},
		{12, api.ErrRange}, {64, api.ErrRange}, {math.MinInt, api.ErrRange}, {math.MaxInt, api.ErrRange},
	} {
		m := of(-1)
		m.Size = c.size
		checkTold(t, m, c.want)
	}
}

// TestCheckCount: 16 signals of four bits fill 8 bytes, so one more has no room,
// and yet there are too many first.
func TestCheckCount(t *testing.T) {
	for _, c := range []struct {
		n    int
		want api.Errno
	}{
		{0, api.OK}, {1, api.OK}, {api.MaxSignals, api.OK}, {api.MaxSignals + 1, api.ErrMany}, {1000, api.ErrMany},
	} {
		m := of(-1, row(c.n)...)
		checkTold(t, m, c.want)
	}
	m := of(-1)
	m.Signals = []api.Signal{}
	checkTold(t, m, api.OK)
}

// wrongSignals are chapter 9's errors of a signal in 8 bytes.
var wrongSignals = []struct {
	change func(s *api.Signal)
	want   api.Errno
}{
	{func(s *api.Signal) { s.Name = "" }, api.ErrText},
	{func(s *api.Signal) { s.Name = "a-b" }, api.ErrText},
	{func(s *api.Signal) { s.Size = 0 }, api.ErrRange},
	{func(s *api.Signal) { s.Size = 41 }, api.ErrRange},
	{func(s *api.Signal) { s.Mul = 0 }, api.ErrRange},
	{func(s *api.Signal) { s.Mul = 1000001 }, api.ErrRange},
	{func(s *api.Signal) { s.Mul = -1000001 }, api.ErrRange},
	{func(s *api.Signal) { s.Div = 0 }, api.ErrRange},
	{func(s *api.Signal) { s.Div = 1000001 }, api.ErrRange},
	{func(s *api.Signal) { s.Add = 1000001 }, api.ErrRange},
	{func(s *api.Signal) { s.Add = -1000001 }, api.ErrRange},
	{func(s *api.Signal) { s.Key = -2 }, api.ErrRange},
	{func(s *api.Signal) { s.Key = 256 }, api.ErrRange},
	{func(s *api.Signal) { s.Key = math.MinInt }, api.ErrRange},
	{func(s *api.Signal) { s.Key = math.MaxInt }, api.ErrRange},
	{func(s *api.Signal) { s.Start = -1 }, api.ErrShort},
	{func(s *api.Signal) { s.Start = 61 }, api.ErrShort},
	{func(s *api.Signal) { s.Start = 64 }, api.ErrShort},
	{func(s *api.Signal) { s.Start, s.Back = 58, true }, api.ErrShort},
	{func(s *api.Signal) { s.Start = math.MinInt }, api.ErrShort},
	{func(s *api.Signal) { s.Start = math.MaxInt }, api.ErrShort},
}

func TestCheckSignals(t *testing.T) {
	for _, c := range wrongSignals {
		for _, i := range []int{0, 2, 4} {
			m := with(of(-1, row(5)...), i, c.change)
			checkTold(t, m, c.want)
			// the Chooser is told later
			m.Chooser = 5
			checkTold(t, m, c.want)
		}
	}
}

// TestCheckRoom: a signal's bits lie in Size bytes, not in those of a frame.
func TestCheckRoom(t *testing.T) {
	for size := range 9 {
		m := of(-1, part("a", 0, 8, -1))
		m.Size = size
		for at := 0; at <= 64; at += 8 {
			want := api.OK
			if at+8 > 8*size {
				want = api.ErrShort
			}
			m.Signals[0].Start = at
			checkTold(t, m, want)
		}
	}
}

func TestCheckTwice(t *testing.T) {
	for _, c := range []struct {
		l    []api.Signal
		want api.Errno
	}{
		{[]api.Signal{part("a", 0, 4, -1), part("a", 4, 4, -1)}, api.ErrTwice},
		{[]api.Signal{part("a", 0, 4, -1), part("A", 4, 4, -1)}, api.OK},
		{[]api.Signal{part("a", 0, 4, -1), part("b", 4, 4, -1), part("a", 8, 4, -1)}, api.ErrTwice},
		{[]api.Signal{part("a", 0, 4, -1), part("b", 4, 4, -1), part("b", 8, 4, -1)}, api.ErrTwice},
		// Keys, the same or not, don't help
		{[]api.Signal{part("c", 0, 4, -1), part("a", 4, 4, 1), part("a", 8, 4, 1)}, api.ErrTwice},
		{[]api.Signal{part("c", 0, 4, -1), part("a", 4, 4, 1), part("a", 4, 4, 2)}, api.ErrTwice},
		{[]api.Signal{part("c", 0, 4, -1), part("a", 4, 4, 1), part("c", 8, 4, 2)}, api.ErrTwice},
		// of a signal that has the name, and the bits: the name is told first
		{[]api.Signal{part("a", 0, 4, -1), part("a", 0, 4, -1)}, api.ErrTwice},
		// of those ahead, the first is told first
		{[]api.Signal{part("a", 0, 4, -1), part("b", 4, 4, -1), part("b", 3, 4, -1)}, api.ErrOver},
		{[]api.Signal{part("a", 0, 4, -1), part("b", 4, 4, -1), part("a", 7, 4, -1)}, api.ErrTwice},
		// of the signals, too
		{[]api.Signal{part("a", 0, 4, -1), part("b", 3, 4, -1), part("a", 8, 4, -1)}, api.ErrOver},
		{[]api.Signal{part("a", 0, 4, -1), part("a", 4, 4, -1), part("c", 3, 4, -1)}, api.ErrTwice},
		{[]api.Signal{part("a", 0, 4, -1), part("a", 4, 4, -1), part("c", 64, 4, -1)}, api.ErrTwice},
		{[]api.Signal{part("a", 0, 4, -1), part("b", 3, 4, -1), part("", 8, 4, -1)}, api.ErrOver},
		{[]api.Signal{part("a", 0, 4, -1), part("a", 64, 4, -1), part("", 8, 4, -1)}, api.ErrShort},
		{[]api.Signal{part("a", 0, 4, -1), part("a", 0, 0, -1), part("b", 0, 4, -1)}, api.ErrRange},
	} {
		chooser := -1
		if c.l[0].Name == "c" {
			chooser = 0
		}
		checkTold(t, of(chooser, c.l...), c.want)
	}
}

func TestCheckOver(t *testing.T) {
	back := func(s api.Signal) api.Signal {
		s.Back = true
		return s
	}
	for _, c := range []struct {
		a, b api.Signal
		want api.Errno
	}{
		{part("a", 8, 4, -1), part("b", 12, 4, -1), api.OK},
		{part("a", 8, 4, -1), part("b", 11, 4, -1), api.ErrOver},
		{part("a", 8, 4, -1), part("b", 8, 1, -1), api.ErrOver},
		{part("a", 8, 4, -1), part("b", 8, 1, 0), api.ErrOver},
		{part("a", 8, 4, 0), part("b", 8, 1, -1), api.ErrOver},
		{part("a", 8, 4, 0), part("b", 8, 1, 0), api.ErrOver},
		{part("a", 8, 4, 255), part("b", 8, 1, 255), api.ErrOver},
		{part("a", 8, 4, 0), part("b", 8, 1, 1), api.OK},
		{part("a", 8, 4, 1), part("b", 8, 1, 0), api.OK},
		{part("a", 8, 4, 0), part("b", 8, 4, 255), api.OK},
		{part("a", 8, 4, 0), part("b", 12, 4, 0), api.OK},
		// over the Chooser
		{part("a", 7, 4, 0), part("b", 12, 4, 1), api.ErrOver},
		{part("a", 8, 4, 0), part("b", 7, 4, 1), api.ErrOver},
		// Back
		{part("a", 8, 8, -1), back(part("b", 8, 2, -1)), api.ErrOver},
		{part("a", 9, 7, -1), back(part("b", 8, 2, -1)), api.OK},
		{part("a", 16, 8, -1), back(part("b", 8, 2, -1)), api.ErrOver},
		{part("a", 16, 7, -1), back(part("b", 8, 2, -1)), api.OK},
	} {
		checkTold(t, of(0, part("c", 0, 8, -1), c.a, c.b), c.want)
		checkTold(t, of(2, c.a, c.b, part("c", 0, 8, -1)), c.want)
	}
	// three with Keys: each is held against all ahead of it
	three := of(0, part("c", 0, 8, -1), part("a", 8, 8, 1), part("b", 8, 8, 2), part("d", 8, 8, 1))
	checkTold(t, three, api.ErrOver)
	checkTold(t, with(three, 3, func(s *api.Signal) { s.Key = 3 }), api.OK)
}

func TestCheckChooser(t *testing.T) {
	for _, n := range []int{0, 1, 5, api.MaxSignals} {
		for _, c := range []int{math.MinInt, -2, -1, 0, n - 1, n, n + 1, math.MaxInt} {
			want := api.OK
			if c < -1 || c >= n {
				want = api.ErrWho
			}
			checkTold(t, of(c, row(n)...), want)
		}
	}
	changes := []struct {
		change func(s *api.Signal)
		want   api.Errno
	}{
		{func(s *api.Signal) { s.Size = 1 }, api.OK},
		{func(s *api.Signal) { s.Size = 8 }, api.OK},
		{func(s *api.Signal) { s.Size = 9 }, api.ErrForm},
		{func(s *api.Signal) { s.Size = 40 }, api.ErrForm},
		{func(s *api.Signal) { s.Signed = true }, api.ErrForm},
		{func(s *api.Signal) { s.Key = 0 }, api.ErrForm},
		{func(s *api.Signal) { s.Key = 1 }, api.ErrForm},
		{func(s *api.Signal) { s.Key = 255 }, api.ErrForm},
		{func(s *api.Signal) { s.Start, s.Back = 7, true }, api.OK},
		{func(s *api.Signal) { s.Mul, s.Div, s.Add = -3, 7, 11 }, api.OK},
	}
	for _, c := range changes {
		checkTold(t, with(of(0, part("a", 0, 4, -1), part("b", 40, 4, -1)), 0, c.change), c.want)
		checkTold(t, with(of(1, part("b", 40, 4, -1), part("a", 0, 4, -1)), 1, c.change), c.want)
	}
	// one that doesn't choose may be so
	other := of(0, part("a", 0, 8, -1), part("b", 8, 9, 3))
	checkTold(t, with(other, 1, func(s *api.Signal) { s.Signed = true }), api.OK)
	// no such one is told ahead of what it can't be
	checkTold(t, of(2, part("a", 0, 8, 1), part("b", 8, 8, 3)), api.ErrWho)
	checkTold(t, of(-2, part("a", 0, 8, 1), part("b", 8, 8, 3)), api.ErrWho)
}

func TestCheckKeys(t *testing.T) {
	// no Chooser
	for _, key := range []int{0, 1, 255} {
		checkTold(t, of(-1, part("a", 0, 8, key)), api.ErrForm)
		checkTold(t, of(-1, part("a", 0, 8, -1), part("b", 8, 8, key), part("d", 16, 8, -1)), api.ErrForm)
	}
	for size := 1; size <= 8; size++ {
		most := 1<<size - 1
		for _, key := range []int{-1, 0, most, most + 1, 255, 256} {
			want := api.OK
			switch {
			case key > 255:
				want = api.ErrRange
			case key > most:
				want = api.ErrForm
			}
			c, s, other := part("c", 0, size, -1), part("s", 8, 8, key), part("o", 16, 8, 0)
			checkTold(t, of(0, c, s, other), want)
			checkTold(t, of(1, s, c, other), want)
			checkTold(t, of(2, other, s, c), want)
		}
	}
}

// TestCheckOrder: each thing that may be wrong is told ahead of those behind it.
func TestCheckOrder(t *testing.T) {
	spoil := []struct {
		change func(m *api.Message)
		want   api.Errno
	}{
		{func(m *api.Message) { m.Name = "" }, api.ErrText},
		{func(m *api.Message) { m.ID = 2048 }, api.ErrRange},
		{func(m *api.Message) { m.Size = 9 }, api.ErrRange},
		{func(m *api.Message) { m.Signals = append(m.Signals, row(api.MaxSignals)...) }, api.ErrMany},
		{func(m *api.Message) { m.Signals[1].Name = "" }, api.ErrText},
		{func(m *api.Message) { m.Signals[2].Name = m.Signals[0].Name }, api.ErrTwice},
		{func(m *api.Message) { m.Signals[2].Start = 12 }, api.ErrOver},
		{func(m *api.Message) { m.Signals[3].Start = 61 }, api.ErrShort},
		{func(m *api.Message) { m.Chooser = 44 }, api.ErrWho},
		{func(m *api.Message) { m.Signals[0].Signed = true }, api.ErrForm},
	}
	sound := func() api.Message {
		return of(0, part("a", 0, 8, -1), part("b", 8, 8, 0), part("d", 16, 8, 0), part("e", 24, 8, 1))
	}
	checkTold(t, sound(), api.OK)
	for i, first := range spoil {
		m := sound()
		first.change(&m)
		checkTold(t, m, first.want)
		for _, later := range spoil[i+1:] {
			m := sound()
			later.change(&m)
			first.change(&m)
			checkTold(t, m, first.want)
		}
	}
}

// many has n messages with the numbers 10, 11 and so on.
func many(n int) []api.Message {
	var l []api.Message
	for i := range n {
		l = append(l, api.Message{ID: 10 + i, Name: fmt.Sprint("m", i), Size: 1, Chooser: -1, Signals: row(2)})
	}
	return l
}

// checkList holds the error of CheckAll, and of Find which says it first, against
// want.
func checkList(t *testing.T, l []api.Message, want api.Errno) {
	t.Helper()
	if e := CheckAll(l); e != want {
		t.Errorf("CheckAll(%+v): %d, want %d", l, e, want)
	}
	if want == api.OK {
		return
	}
	for _, f := range []api.Frame{{ID: 10}, {ID: 5, Long: true}, {ID: -1}, {Remote: true, Fast: true}} {
		if i, e := Find(l, f); i != 0 || e != want {
			t.Errorf("Find(%+v, %+v): %d %d, want %d", l, f, i, e, want)
		}
	}
}

func TestCheckAll(t *testing.T) {
	checkList(t, nil, api.OK)
	checkList(t, []api.Message{}, api.OK)
	checkList(t, many(1), api.OK)
	checkList(t, many(api.MaxMessages), api.OK)
	checkList(t, many(api.MaxMessages+1), api.ErrMany)
	// too many is told first
	l := many(api.MaxMessages + 1)
	l[0].Name = ""
	checkList(t, l, api.ErrMany)
	checkList(t, make([]api.Message, 1000), api.ErrMany)

	for _, i := range []int{0, 2, 4} {
		l = many(5)
		l[i].Size = 9
		checkList(t, l, api.ErrRange)
		l[i].Name = ""
		checkList(t, l, api.ErrText)
	}
}

func TestCheckAllTwice(t *testing.T) {
	for _, p := range [][2]int{{0, 1}, {0, 4}, {2, 4}, {3, 4}} {
		l := many(5)
		l[p[1]].Name = l[p[0]].Name
		checkList(t, l, api.ErrTwice)

		l = many(5)
		l[p[1]].ID = l[p[0]].ID
		checkList(t, l, api.ErrTwice)
		l[p[0]].Long, l[p[1]].Long = true, true
		checkList(t, l, api.ErrTwice)
		l[p[0]].Long = false
		checkList(t, l, api.OK)
		l[p[0]].Long, l[p[1]].Long = true, false
		checkList(t, l, api.OK)
		l[p[1]].Name = l[p[0]].Name
		checkList(t, l, api.ErrTwice)
	}
	// two may have signals of the same names; they may differ in case alone
	l := many(2)
	l[0].Name, l[1].Name = "ab", "aB"
	checkList(t, l, api.OK)
}

// TestCheckAllOrder: message by message, what is wrong with it by itself first.
func TestCheckAllOrder(t *testing.T) {
	l := many(4)
	l[1].Name, l[2].Size = l[0].Name, 9
	checkList(t, l, api.ErrTwice)
	l[2].Size, l[3].Name = 1, ""
	checkList(t, l, api.ErrTwice)
	l = many(4)
	l[2].ID, l[3].Name = l[1].ID, ""
	checkList(t, l, api.ErrTwice)
	l[2].Size = 9
	checkList(t, l, api.ErrRange)
	l[0].Chooser = 2
	checkList(t, l, api.ErrWho)
}

func TestFind(t *testing.T) {
	l := many(api.MaxMessages)
	l[3].Long = true
	l[5].ID, l[5].Long = 12, true // the number of l[2]
	l[6].ID, l[6].Long = api.MaxLong, true
	for _, c := range []struct {
		f    api.Frame
		want int
	}{
		{api.Frame{ID: 10}, 0},
		{api.Frame{ID: 12}, 2},
		{api.Frame{ID: 12, Long: true}, 5},
		{api.Frame{ID: 13}, -1},
		{api.Frame{ID: 13, Long: true}, 3},
		{api.Frame{ID: 15, Long: true}, -1},
		{api.Frame{ID: 10, Long: true}, -1},
		{api.Frame{ID: 29}, 19},
		{api.Frame{ID: 30}, -1},
		{api.Frame{ID: 9}, -1},
		{api.Frame{ID: 0}, -1},
		{api.Frame{ID: api.MaxLong, Long: true}, 6},
		// its bytes don't matter, nor what kind it is otherwise
		{api.Frame{ID: 12, Data: []byte{1, 2, 3}}, 2},
		{api.Frame{ID: 12, Remote: true, Size: 8}, 2},
		{api.Frame{ID: 12, Fast: true, Data: make([]byte, 64)}, 2},
		{api.Frame{ID: 12, Long: true, Fast: true}, 5},
	} {
		if i, e := Find(l, c.f); i != c.want || e != api.OK {
			t.Errorf("Find(%+v): %d %d, want %d", c.f, i, e, c.want)
		}
	}
	for _, none := range [][]api.Message{nil, {}} {
		if i, e := Find(none, api.Frame{ID: 10}); i != -1 || e != api.OK {
			t.Errorf("Find of none: %d %d", i, e)
		}
	}
}

// wrongFrames are frames that can't be sent, and chapter 4's errors.
var wrongFrames = []struct {
	f api.Frame
	e api.Errno
}{
	{api.Frame{ID: -1}, api.ErrRange},
	{api.Frame{ID: 2048}, api.ErrRange},
	{api.Frame{ID: api.MaxLong + 1, Long: true}, api.ErrRange},
	{api.Frame{ID: math.MinInt}, api.ErrRange},
	{api.Frame{ID: math.MaxInt, Long: true}, api.ErrRange},
	{api.Frame{ID: 100, Remote: true, Fast: true}, api.ErrForm},
	{api.Frame{ID: 100, Remote: true, Data: []byte{1}}, api.ErrForm},
	{api.Frame{ID: 100, Remote: true, Size: 9}, api.ErrRange},
	{api.Frame{ID: 100, Size: 1}, api.ErrRange},
	{api.Frame{ID: 100, Size: -1, Data: make([]byte, 8)}, api.ErrRange},
	{api.Frame{ID: 100, Data: make([]byte, 9)}, api.ErrMany},
	{api.Frame{ID: 100, Fast: true, Data: make([]byte, 65)}, api.ErrMany},
	{api.Frame{ID: 100, Fast: true, Data: make([]byte, 9)}, api.ErrForm},
	{api.Frame{ID: 5, Fast: true, Data: make([]byte, 63)}, api.ErrForm},
}

func TestFindWrongFrame(t *testing.T) {
	for _, c := range wrongFrames {
		for _, l := range [][]api.Message{nil, many(3), {of(-1)}} {
			if i, e := Find(l, c.f); i != 0 || e != c.e {
				t.Errorf("Find(%d messages, %+v): %d %d, want %d", len(l), c.f, i, e, c.e)
			}
		}
	}
}

// places walks through the bits of a signal, that which counts least last if it
// is Back.
func places(s api.Signal) []int {
	var l []int
	at := s.Start
	for range s.Size {
		l = append(l, at)
		switch {
		case !s.Back:
			at++
		case at%8 == 0:
			at += 15
		default:
			at--
		}
	}
	return l
}

// judge is Check another way, of messages whose signals are well each by itself:
// by a table of who has which bit.
func judge(m api.Message) api.Errno {
	names := map[string]bool{}
	var owners [64][]api.Signal
	for i, s := range m.Signals {
		var hit []int
		for _, at := range places(s) {
			if at >= 8*m.Size {
				return api.ErrShort
			}
			for _, o := range owners[at] {
				if o.Key == -1 || s.Key == -1 || o.Key == s.Key {
					hit = append(hit, slices.IndexFunc(m.Signals, func(x api.Signal) bool { return x == o }))
				}
			}
			owners[at] = append(owners[at], s)
		}
		twin := slices.IndexFunc(m.Signals[:i], func(x api.Signal) bool { return x.Name == s.Name })
		if len(hit) > 0 && (twin < 0 || slices.Min(hit) < twin) {
			return api.ErrOver
		}
		if names[s.Name] {
			return api.ErrTwice
		}
		names[s.Name] = true
	}
	if m.Chooser > len(m.Signals)-1 {
		return api.ErrWho
	}
	for _, s := range m.Signals {
		if s.Key == -1 {
			continue
		}
		if m.Chooser == -1 || s.Key>>m.Signals[m.Chooser].Size > 0 {
			return api.ErrForm
		}
	}
	if m.Chooser >= 0 {
		if c := m.Signals[m.Chooser]; c.Signed || c.Key != -1 || c.Size > 8 {
			return api.ErrForm
		}
	}
	return api.OK
}

// randomSignal is one with a small number of bits, so that several have room.
func randomSignal(r *rand.Rand, bytes int) api.Signal {
	s := api.Signal{
		Name: string(rune('a' + r.Intn(26))), Size: 1 + r.Intn(12), Back: r.Intn(2) == 0, Signed: r.Intn(3) == 0,
		Mul: 1 + r.Intn(20), Div: 1 + r.Intn(20), Add: r.Intn(41) - 20, Key: -1,
	}
	s.Start = r.Intn(8 * bytes)
	if r.Intn(4) == 0 {
		s.Mul = -s.Mul
	}
	if r.Intn(2) == 0 {
		s.Key = r.Intn(4)
	}
	return s
}

func TestCheckMany(t *testing.T) {
	r := rand.New(rand.NewSource(1))
	seen := map[api.Errno]int{}
	for range 100000 {
		m := api.Message{ID: r.Intn(2048), Name: "m", Size: 1 + r.Intn(8), Chooser: r.Intn(4) - 1}
		if r.Intn(4) > 0 {
			m.Size = 8
		}
		for range r.Intn(6) {
			m.Signals = append(m.Signals, randomSignal(r, m.Size))
		}
		want := judge(m)
		seen[want]++
		if e := Check(m); e != want {
			t.Fatalf("Check(%+v): %d, want %d", m, e, want)
		}
	}
	for _, e := range []api.Errno{api.OK, api.ErrShort, api.ErrOver, api.ErrTwice, api.ErrWho, api.ErrForm} {
		if seen[e] < 500 {
			t.Errorf("error %d was there only %d times", e, seen[e])
		}
	}
}
