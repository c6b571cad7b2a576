package text

import (
	"fmt"
	"math"
	"math/rand"
	"reflect"
	"slices"
	"strings"
	"testing"

	"omnibus/api"
	"omnibus/message"
)

// part is a signal that means its raw number, with so many bits from start on.
func part(name string, start, size, key int) api.Signal {
	return api.Signal{Name: name, Start: start, Size: size, Mul: 1, Div: 1, Key: key}
}

// of is a message of 8 bytes with these signals.
func of(name string, id, chooser int, l ...api.Signal) api.Message {
	return api.Message{ID: id, Name: name, Size: 8, Chooser: chooser, Signals: l}
}

// row has n signals of four bits, one behind the other, named a, b and so on.
func row(n int) []api.Signal {
	var l []api.Signal
	for i := range n {
		l = append(l, part(string(rune('a'+i)), 4*i, 4, -1))
	}
	return l
}

// many has n messages, each with so many signals.
func many(n, signals int) []api.Message {
	var l []api.Message
	for i := range n {
		l = append(l, of(fmt.Sprintf("m%d", i), i, -1, row(signals)...))
	}
	return l
}

// told is how l is written, by the words of the document: any messages whose
// Choosers are signals of theirs, or none.
func told(l []api.Message) string {
	var out strings.Builder
	for _, m := range l {
		long, chooser := "", "-"
		if m.Long {
			long = "x"
		}
		if m.Chooser != -1 {
			chooser = m.Signals[m.Chooser].Name
		}
		fmt.Fprintf(&out, "message %s %d%s %d %s\n", m.Name, m.ID, long, m.Size, chooser)
		for _, s := range m.Signals {
			order, sign, key := '<', '+', "-"
			if s.Back {
				order = '>'
			}
			if s.Signed {
				sign = '-'
			}
			if s.Key != -1 {
				key = fmt.Sprint(s.Key)
			}
			fmt.Fprintf(&out, "signal %s %d:%d%c%c %d/%d %d %s\n", s.Name, s.Start, s.Size, order, sign, s.Mul, s.Div, s.Add, key)
		}
	}
	return out.String()
}

// sized has messages whose text has just n bytes: longer names make it as long.
func sized(t *testing.T, n int) []api.Message {
	t.Helper()
	l := many(7, 16)
	for i := range l {
		for k := range l[i].Signals {
			left := n - len(told(l))
			name := &l[i].Signals[k].Name
			*name += strings.Repeat("z", max(0, min(left, api.MaxName-len(*name))))
		}
	}
	if len(told(l)) != n {
		t.Fatalf("a text of %d bytes, want %d", len(told(l)), n)
	}
	return l
}

// alike tells whether two lists of messages are the same; a list of none may be
// nil or empty.
func alike(a, b []api.Message) bool {
	return slices.EqualFunc(a, b, func(x, y api.Message) bool {
		one := slices.Equal(x.Signals, y.Signals)
		x.Signals, y.Signals = nil, nil
		return one && reflect.DeepEqual(x, y)
	})
}

// checkPrint holds Print's answer against what is wanted; with an error there is
// no text.
func checkPrint(t *testing.T, l []api.Message, want string, e api.Errno) {
	t.Helper()
	if s, got := Print(l); s != want || got != e {
		t.Errorf("Print(%+v): %q %d, want %q %d", l, s, got, want, e)
	}
}

// checkBoth: s is l's text, and the other way.
func checkBoth(t *testing.T, l []api.Message, s string) {
	t.Helper()
	checkPrint(t, l, s, api.OK)
	if back, at, e := Parse(s); !alike(back, l) || at != 0 || e != api.OK {
		t.Errorf("Parse(%q): %+v %d %d, want %+v", s, back, at, e, l)
	}
}

func TestPrintMessages(t *testing.T) {
	checkBoth(t, nil, "")
	checkBoth(t, []api.Message{}, "")
	for _, c := range []struct {
		m    api.Message
		want string
	}{
		{api.Message{Name: "a", Chooser: -1}, "message a 0 0 -\n"},
		{api.Message{Name: "a", Chooser: -1, Signals: []api.Signal{}}, "message a 0 0 -\n"},
		{api.Message{Name: "a", Long: true, Chooser: -1}, "message a 0x 0 -\n"},
		{api.Message{Name: "Z9", ID: 10, Size: 1, Chooser: -1}, "message Z9 10 1 -\n"},
		{api.Message{Name: "x", ID: api.MaxID, Size: 8, Chooser: -1}, "message x 2047 8 -\n"},
		{api.Message{Name: "x", ID: api.MaxID, Long: true, Size: 8, Chooser: -1}, "message x 2047x 8 -\n"},
		{api.Message{Name: "x", ID: api.MaxID + 1, Long: true, Size: 8, Chooser: -1}, "message x 2048x 8 -\n"},
		{api.Message{Name: "AbcdefghijklmnoP", ID: api.MaxLong, Long: true, Size: 7, Chooser: -1}, "message AbcdefghijklmnoP 536870911x 7 -\n"},
		{api.Message{Name: "message", Chooser: -1}, "message message 0 0 -\n"},
		{api.Message{Name: "signal", Chooser: -1}, "message signal 0 0 -\n"},
		{of("a", 5, -1, part("b", 0, 1, -1)), "message a 5 8 -\nsignal b 0:1<+ 1/1 0 -\n"},
		{of("a", 5, 0, part("b", 0, 1, -1)), "message a 5 8 b\nsignal b 0:1<+ 1/1 0 -\n"},
		{of("a", 5, 1, part("b", 0, 1, -1), part("a", 1, 2, -1)), "message a 5 8 a\nsignal b 0:1<+ 1/1 0 -\nsignal a 1:2<+ 1/1 0 -\n"},
		{of("a", 5, 0, part("signal", 0, 8, -1), part("message", 8, 2, 3)), "message a 5 8 signal\nsignal signal 0:8<+ 1/1 0 -\nsignal message 8:2<+ 1/1 0 3\n"},
	} {
		checkBoth(t, []api.Message{c.m}, c.want)
	}
	// in their order, whatever their numbers and names are
	long := of("a", 7, -1)
	long.Long = true
	checkBoth(t, []api.Message{of("c", 9, -1), of("b", 7, 0, row(1)...), long},
		"message c 9 8 -\nmessage b 7 8 a\nsignal a 0:4<+ 1/1 0 -\nmessage a 7x 8 -\n")
}

func TestPrintSignals(t *testing.T) {
	for _, c := range []struct {
		s    api.Signal
		want string
	}{
		{api.Signal{Name: "s", Size: 1, Mul: 1, Div: 1, Key: -1}, "signal s 0:1<+ 1/1 0 -\n"},
		{api.Signal{Name: "s", Start: 7, Size: 8, Back: true, Mul: 1, Div: 1, Key: -1}, "signal s 7:8>+ 1/1 0 -\n"},
		{api.Signal{Name: "s", Size: 8, Signed: true, Mul: 1, Div: 1, Key: -1}, "signal s 0:8<- 1/1 0 -\n"},
		{api.Signal{Name: "s", Start: 15, Size: 40, Back: true, Signed: true, Mul: 1, Div: 1, Key: -1}, "signal s 15:40>- 1/1 0 -\n"},
		{api.Signal{Name: "s", Start: 50, Size: 6, Mul: -1, Div: 10, Add: -40, Key: -1}, "signal s 50:6<+ -1/10 -40 -\n"},
		{api.Signal{Name: "s", Size: 6, Mul: 1000000, Div: 1000000, Add: 1000000, Key: -1}, "signal s 0:6<+ 1000000/1000000 1000000 -\n"},
		{api.Signal{Name: "s", Size: 6, Mul: -1000000, Div: 999999, Add: -1000000, Key: -1}, "signal s 0:6<+ -1000000/999999 -1000000 -\n"},
		{api.Signal{Name: "s", Size: 6, Mul: 2, Div: 4, Add: 1, Key: 0}, "signal s 0:6<+ 2/4 1 0\n"},
		{api.Signal{Name: "s", Size: 6, Mul: 1, Div: 1, Key: 1}, "signal s 0:6<+ 1/1 0 1\n"},
		{api.Signal{Name: "s", Size: 6, Back: true, Start: 7, Mul: 1, Div: 1, Key: 255}, "signal s 7:6>+ 1/1 0 255\n"},
		{api.Signal{Name: "SignalsOf16Bytes", Size: 6, Mul: 1, Div: 1, Key: -1}, "signal SignalsOf16Bytes 0:6<+ 1/1 0 -\n"},
	} {
		checkBoth(t, []api.Message{of("a", 5, 0, part("c", 56, 8, -1), c.s)}, "message a 5 8 c\nsignal c 56:8<+ 1/1 0 -\n"+c.want)
	}
	// in their order, wherever they lie
	checkBoth(t, []api.Message{of("a", 5, -1, part("z", 9, 1, -1), part("y", 0, 1, -1), part("x", 5, 1, -1))},
		"message a 5 8 -\nsignal z 9:1<+ 1/1 0 -\nsignal y 0:1<+ 1/1 0 -\nsignal x 5:1<+ 1/1 0 -\n")
}

// wrongLists have each of CheckAll's errors, but for what can't be written (a
// Chooser that is no signal, a Key below -1, a name that is no word).
func wrongLists() []struct {
	name string
	l    []api.Message
	want api.Errno
} {
	signed := part("c", 0, 4, -1)
	signed.Signed = true
	changed := func(change func(s *api.Signal)) []api.Message {
		m := of("m", 5, -1, row(3)...)
		change(&m.Signals[1])
		return []api.Message{of("good", 1, -1), m}
	}
	single := func(change func(m *api.Message)) []api.Message {
		m := of("m", 5, -1)
		change(&m)
		return []api.Message{of("good", 1, -1), m}
	}
	return []struct {
		name string
		l    []api.Message
		want api.Errno
	}{
		{"too many messages", many(api.MaxMessages+1, 0), api.ErrMany},
		{"no name", single(func(m *api.Message) { m.Name = "9" }), api.ErrText},
		{"a name that is a sign", single(func(m *api.Message) { m.Name = "-" }), api.ErrText},
		{"a name that is too long", single(func(m *api.Message) { m.Name = strings.Repeat("a", 17) }), api.ErrText},
		{"an ID below 0", single(func(m *api.Message) { m.ID = -1 }), api.ErrRange},
		{"a great ID", single(func(m *api.Message) { m.ID = api.MaxID + 1 }), api.ErrRange},
		{"a great long ID", single(func(m *api.Message) { m.ID, m.Long = api.MaxLong+1, true }), api.ErrRange},
		{"a Size below 0", single(func(m *api.Message) { m.Size = -1 }), api.ErrRange},
		{"a great Size", single(func(m *api.Message) { m.Size = 9 }), api.ErrRange},
		{"the least Size", single(func(m *api.Message) { m.Size = math.MinInt }), api.ErrRange},
		{"the greatest ID", single(func(m *api.Message) { m.ID, m.Long = math.MaxInt, true }), api.ErrRange},
		{"too many signals", many(2, api.MaxSignals+1), api.ErrMany},
		{"a signal without a name", changed(func(s *api.Signal) { s.Name = "a_b" }), api.ErrText},
		{"a signal whose name is a sign", changed(func(s *api.Signal) { s.Name = "-" }), api.ErrText},
		{"a signal of no bits", changed(func(s *api.Signal) { s.Size = 0 }), api.ErrRange},
		{"a signal of many bits", changed(func(s *api.Signal) { s.Size = 41 }), api.ErrRange},
		{"a signal of less than no bits", changed(func(s *api.Signal) { s.Size = math.MinInt }), api.ErrRange},
		{"no Mul", changed(func(s *api.Signal) { s.Mul = 0 }), api.ErrRange},
		{"a great Mul", changed(func(s *api.Signal) { s.Mul = 1000001 }), api.ErrRange},
		{"the least Mul", changed(func(s *api.Signal) { s.Mul = math.MinInt }), api.ErrRange},
		{"no Div", changed(func(s *api.Signal) { s.Div = 0 }), api.ErrRange},
		{"a Div below 0", changed(func(s *api.Signal) { s.Div = -1 }), api.ErrRange},
		{"the greatest Div", changed(func(s *api.Signal) { s.Div = math.MaxInt }), api.ErrRange},
		{"a great Add", changed(func(s *api.Signal) { s.Add = 1000001 }), api.ErrRange},
		{"a small Add", changed(func(s *api.Signal) { s.Add = -1000001 }), api.ErrRange},
		{"a great Key", changed(func(s *api.Signal) { s.Key = 256 }), api.ErrRange},
		{"the greatest Key", changed(func(s *api.Signal) { s.Key = math.MaxInt }), api.ErrRange},
		{"a Start below 0", changed(func(s *api.Signal) { s.Start = -1 }), api.ErrShort},
		{"a Start too far", changed(func(s *api.Signal) { s.Start = 61 }), api.ErrShort},
		{"the least Start", changed(func(s *api.Signal) { s.Start, s.Back = math.MinInt, true }), api.ErrShort},
		{"a signal twice", changed(func(s *api.Signal) { s.Name = "a" }), api.ErrTwice},
		{"one over another", changed(func(s *api.Signal) { s.Start = 3 }), api.ErrOver},
		{"a Key and no Chooser", changed(func(s *api.Signal) { s.Key = 0 }), api.ErrForm},
		{"a Chooser with a sign", []api.Message{of("m", 5, 0, signed)}, api.ErrForm},
		{"a Chooser with a Key", []api.Message{of("m", 5, 0, part("c", 0, 4, 0))}, api.ErrForm},
		{"a Chooser of many bits", []api.Message{of("m", 5, 0, part("c", 0, 9, -1))}, api.ErrForm},
		{"a Key that the Chooser can't be", []api.Message{of("m", 5, 0, part("c", 0, 2, -1), part("d", 2, 2, 4))}, api.ErrForm},
		{"a name twice", []api.Message{of("m", 5, -1), of("n", 6, -1), of("m", 7, -1)}, api.ErrTwice},
		{"an ID twice", []api.Message{of("m", 5, -1), of("n", 6, -1), of("o", 5, -1)}, api.ErrTwice},
	}
}

func TestPrintWrong(t *testing.T) {
	for _, c := range wrongLists() {
		if e := message.CheckAll(c.l); e != c.want {
			t.Errorf("%s: CheckAll says %d, want %d", c.name, e, c.want)
		}
		checkPrint(t, c.l, "", c.want)
	}
	checkPrint(t, []api.Message{{}, {}}, "", api.ErrText)
	for _, chooser := range []int{-2, 3, 100, math.MinInt, math.MaxInt} {
		checkPrint(t, []api.Message{of("m", 5, chooser, row(3)...)}, "", api.ErrWho)
	}
	checkPrint(t, []api.Message{of("m", 5, 0)}, "", api.ErrWho)
	for _, name := range []string{"", "a b", "a\n", " ", "\n", "a\nmessage b 0 0 -", "é", "\xff"} {
		checkPrint(t, []api.Message{of(name, 5, -1)}, "", api.ErrText)
		checkPrint(t, []api.Message{of("m", 5, -1, part(name, 0, 1, -1))}, "", api.ErrText)
	}
	for _, key := range []int{-2, math.MinInt} {
		checkPrint(t, []api.Message{of("m", 5, 0, part("a", 0, 1, -1), part("b", 1, 1, key))}, "", api.ErrRange)
	}
}

func TestPrintLong(t *testing.T) {
	for _, n := range []int{api.MaxText - 1, api.MaxText} {
		l := sized(t, n)
		checkBoth(t, l, told(l))
	}
	for _, l := range [][]api.Message{sized(t, api.MaxText+1), sized(t, api.MaxText+2), many(20, 16)} {
		if e := message.CheckAll(l); e != api.OK {
			t.Fatalf("CheckAll: %d", e)
		}
		checkPrint(t, l, "", api.ErrMany)
	}
	// CheckAll's error is told ahead of it
	for _, n := range []int{api.MaxText, api.MaxText + 1} {
		l := sized(t, n)
		l[6].ID = 0
		checkPrint(t, l, "", api.ErrTwice)
		l[6].Chooser = 16
		checkPrint(t, l, "", api.ErrWho)
		l[6].Size = 9
		checkPrint(t, l, "", api.ErrRange)
	}
}

// TestPrintMemory: neither the lists nor the room behind them are changed.
func TestPrintMemory(t *testing.T) {
	build := func() []api.Message {
		room := []api.Signal{part("b", 15, 8, 1), part("c", 0, 2, -1), part("spare", 3, 1, 2)}
		l := []api.Message{of("a", 5, 1, room[:2]...), of("d", 6, -1), of("spare", 7, -1)}
		return l
	}
	for _, n := range []int{0, 1, 2} {
		l := build()
		if _, e := Print(l[:n]); e != api.OK {
			t.Errorf("Print: %d", e)
		}
		if !reflect.DeepEqual(l, build()) || !reflect.DeepEqual(l[0].Signals[:3], build()[0].Signals[:3]) {
			t.Errorf("Print changed what it was handed: %+v", l)
		}
	}
	for _, c := range wrongLists() {
		before := told(c.l)
		Print(c.l)
		if told(c.l) != before {
			t.Errorf("%s: Print changed what it was handed", c.name)
		}
	}
}

// someSignal is a signal in size bytes that Check takes; its name is its own.
func someSignal(r *rand.Rand, i, size int) api.Signal {
	factor := func() int { return 1 + r.Intn([]int{1, 10, 1000000}[r.Intn(3)]) }
	s := api.Signal{Name: fmt.Sprintf("s%d", i), Size: 1 + r.Intn(min(8*size, 12)), Mul: factor(), Div: factor(), Add: factor() - factor(), Key: -1}
	s.Signed, s.Back = r.Intn(2) == 0, r.Intn(2) == 0
	if r.Intn(2) == 0 {
		s.Mul = -s.Mul
	}
	s.Start = r.Intn(8 * size)
	return s
}

// someMessage is a message that Check takes; its name and number are its own.
func someMessage(r *rand.Rand, i int) api.Message {
	m := api.Message{ID: 20*r.Intn(100) + i, Name: fmt.Sprintf("%c%d", 'A'+r.Intn(26), i), Size: r.Intn(9), Chooser: -1}
	if r.Intn(2) == 0 {
		m.ID, m.Long = m.ID*20000+i, true
	}
	if m.Size > 0 && r.Intn(2) == 0 {
		m.Chooser = 0
		m.Signals = []api.Signal{part("chooser", 0, 1+r.Intn(8), -1)}
	}
	for n := r.Intn(40); n > 0 && m.Size > 0; n-- {
		more := m
		s := someSignal(r, n, m.Size)
		if m.Chooser >= 0 && r.Intn(2) == 0 {
			s.Key = r.Intn(1 << m.Signals[m.Chooser].Size)
		}
		at := r.Intn(len(m.Signals) + 1)
		more.Signals = slices.Insert(slices.Clone(m.Signals), at, s)
		if at <= m.Chooser {
			more.Chooser++
		}
		if message.Check(more) == api.OK {
			m = more
		}
	}
	return m
}

// someMessages are messages that CheckAll takes.
func someMessages(r *rand.Rand, most int) []api.Message {
	var l []api.Message
	for i := range r.Intn(most + 1) {
		l = append(l, someMessage(r, i))
	}
	return l
}

// TestRoundTrips: Parse of what is printed is what was handed in.
func TestRoundTrips(t *testing.T) {
	r := rand.New(rand.NewSource(11))
	seen := map[api.Errno]int{}
	for range 2000 {
		l := someMessages(r, api.MaxMessages)
		if e := message.CheckAll(l); e != api.OK {
			t.Fatalf("CheckAll(%+v): %d", l, e)
		}
		s := told(l)
		if len(s) > api.MaxText {
			seen[api.ErrMany]++
			checkPrint(t, l, "", api.ErrMany)
			continue
		}
		seen[api.OK]++
		checkBoth(t, l, s)
	}
	if seen[api.OK] < 1000 || seen[api.ErrMany] < 10 {
		t.Errorf("too few of a kind were tried: %v", seen)
	}
}
