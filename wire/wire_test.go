package wire

import (
	"fmt"
	"slices"
	"testing"

	"omnibus/api"
	"omnibus/frame"
)

// mixed is n bytes without a plain order; other seeds, other bytes.
func mixed(n, seed int) []byte {
	l := make([]byte, n)
	x := uint32(seed)*2654435761 + 12345
	for i := range l {
		x = x*1664525 + 1013904223
		l[i] = byte(x >> 24)
	}
	return l
}

// short is a short frame with these bytes.
func short(id int, data ...byte) api.Frame { return api.Frame{ID: id, Data: data} }

// long is a Long frame with these bytes.
func long(id int, data ...byte) api.Frame { return api.Frame{ID: id, Long: true, Data: data} }

// remote makes a frame without data one that asks for so many bytes.
func remote(f api.Frame, size int) api.Frame {
	f.Remote, f.Size = true, size
	return f
}

// fast makes a frame one of the newer kind.
func fast(f api.Frame) api.Frame {
	f.Fast = true
	return f
}

func bitsOf(t *testing.T, f api.Frame) string {
	t.Helper()
	b, e := frame.Bits(f)
	if e != api.OK {
		t.Fatalf("Bits(%+v): %d", f, e)
	}
	return b
}

// IDs that alternate, 10101010101 and behind it 010101010101010101: no bit is
// put in up to where the form begins, so that places can be counted by hand.
const (
	alternating     = 0x555
	alternatingLong = alternating<<18 | 0x15555
)

// sendTests: who wins and who gives way where, worked out by hand.
var sendTests = []struct {
	what string
	l    []api.Frame
	won  int
	lost []int
}{
	{"one", []api.Frame{short(5)}, 0, []int{-1}},
	{"one that is all 1", []api.Frame{remote(long(api.MaxLong), 8)}, 0, []int{-1}},
	{"the first bit", []api.Frame{short(1024), short(0)}, 1, []int{1, -1}},
	{"a middle bit, behind one that is put in", []api.Frame{short(64), short(96)}, 0, []int{-1, 7}},
	{"the last bit, behind one that is put in", []api.Frame{short(5), short(4)}, 1, []int{12, -1}},
	{"the last bit", []api.Frame{short(alternating), short(alternating - 1)}, 1, []int{11, -1}},
	{"three", []api.Frame{short(6), short(5), short(1024)}, 1, []int{11, -1, 1}},
	{"three, one behind the other", []api.Frame{short(alternating), short(alternating - 1), short(alternating - 4)}, 2, []int{9, 9, -1}},
	{"the second best gives way later", []api.Frame{short(0x7FF), short(0x400), short(0x401)}, 1, []int{2, -1, 12}},
	{"as many as may be", []api.Frame{short(0x555), short(0x554), short(0x550), short(0x540), short(0x500), short(0x5FF)}, 4, []int{5, 5, 5, 5, -1, 4}},
	{"as many as may be, the first one wins", []api.Frame{short(0), short(1024), short(1024), short(1024), short(1024), short(1024)}, 0, []int{-1, 1, 1, 1, 1, 1}},
	{"as many as may be, the last one wins", []api.Frame{short(2047), short(2047), short(2046), short(2046), short(2045), short(1023)}, 5, []int{1, 1, 1, 1, 1, -1}},

	{"Remote gives way to data", []api.Frame{remote(short(alternating), 0), short(alternating)}, 1, []int{12, -1}},
	{"Remote gives way to data, however much it has", []api.Frame{short(alternating, mixed(8, 1)...), remote(short(alternating), 8)}, 0, []int{-1, 12}},
	{"Remote goes ahead of a greater number", []api.Frame{short(alternating), remote(short(alternating-1), 8)}, 1, []int{11, -1}},
	{"Long goes behind the short one that begins so", []api.Frame{long(alternatingLong), short(alternating)}, 1, []int{12, -1}},
	{"Long goes behind the short Remote one that begins so", []api.Frame{remote(short(alternating), 3), long(alternatingLong)}, 0, []int{-1, 13}},
	{"Long goes ahead of the next short one", []api.Frame{short(alternating), long((alternating-1)<<18 | 0x3FFFF)}, 1, []int{11, -1}},
	{"Long: the first bit", []api.Frame{long(1 << 28), long(0)}, 1, []int{1, -1}},
	{"Long: the last bit", []api.Frame{long(alternatingLong), long(alternatingLong - 1)}, 1, []int{31, -1}},
	{"Long: the first of the 18", []api.Frame{long(alternatingLong), long(alternatingLong | 1<<17)}, 0, []int{-1, 14}},
	{"Long: Remote gives way to data", []api.Frame{remote(long(alternatingLong), 0), long(alternatingLong, 0xFF)}, 1, []int{32, -1}},

	{"one Name: Fast gives way", []api.Frame{fast(short(alternating)), short(alternating)}, 1, []int{14, -1}},
	{"one Name: Long and Fast gives way", []api.Frame{long(alternatingLong, 0xFF), fast(long(alternatingLong))}, 0, []int{-1, 33}},
	{"one Name: Remote goes ahead of no Fast one", []api.Frame{remote(short(alternating), 0), fast(short(alternating, mixed(8, 2)...))}, 1, []int{12, -1}},
	{"one Name: fewer bytes", []api.Frame{short(alternating, 0xAA), short(alternating)}, 1, []int{19, -1}},
	{"one Name: fewer bytes are asked for", []api.Frame{remote(short(alternating), 7), remote(short(alternating), 8)}, 0, []int{-1, 15}},
	{"one Name: the first bit of data", []api.Frame{short(alternating, 0x80), short(alternating, 0x7F)}, 1, []int{20, -1}},
	{"one Name: the last bit of data", []api.Frame{short(alternating, 0x55), short(alternating, 0x54)}, 1, []int{27, -1}},
	{"one Name: Fast, the last bit of data", []api.Frame{fast(short(alternating, 0x54)), fast(short(alternating, 0x55))}, 0, []int{-1, 29}},

	{"two alike give way", []api.Frame{short(6), short(6), short(5)}, 2, []int{11, 11, -1}},
	{"two alike give way, the one between wins", []api.Frame{short(6), short(5), short(6)}, 1, []int{11, -1, 11}},
	{"the longer one gives way", []api.Frame{short(6, mixed(8, 3)...), short(5)}, 1, []int{11, -1}},
	{"the shorter one gives way", []api.Frame{short(6), fast(short(5, mixed(64, 4)...))}, 1, []int{11, -1}},
}

func TestSend(t *testing.T) {
	for _, x := range sendTests {
		row, won, lost, e := Send(x.l)
		if row != bitsOf(t, x.l[x.won]) || won != x.won || !slices.Equal(lost, x.lost) || e != api.OK {
			t.Errorf("%s: %q, %d, %v, %d, want %q, %d, %v", x.what, row, won, lost, e, bitsOf(t, x.l[x.won]), x.won, x.lost)
		}
	}
}

// TestSendRow: what is on the bus, bit by bit.
func TestSendRow(t *testing.T) {
	// Of the short frame 0 all is 0, the sum too: six bits are put in.
	want := "000001000001000001000001000001000001" + "0000" + "1111111111"
	for _, l := range [][]api.Frame{{short(0)}, {short(0), short(1)}, {long(0), short(0), remote(short(0), 0)}, {fast(short(0)), short(0)}} {
		if row, _, _, e := Send(l); row != want || e != api.OK {
			t.Errorf("Send(%+v): %q, %d, want %q", l, row, e, want)
		}
	}
}

func TestSendTwice(t *testing.T) {
	tests := [][]api.Frame{
		{short(5), short(5)},
		{short(0), short(0)},
		{short(5), short(5), short(6)},
		{short(6), short(5), short(5)},
		{short(5), short(6), short(5)},
		{short(5), short(5), short(5)},
		{short(5), short(5), short(5), short(5), short(5), short(5)},
		{short(5, 1, 2), short(7), short(5, 1, 2)},
		{{ID: 5}, {ID: 5, Data: []byte{}}},
		{remote(short(5), 3), remote(short(5), 3)},
		{remote(long(5), 3), remote(long(5), 3)},
		{fast(long(5, mixed(64, 5)...)), fast(long(5, mixed(64, 5)...))},
		{short(api.MaxID), short(api.MaxID)},
		{remote(long(api.MaxLong), 8), remote(long(api.MaxLong), 8)},
	}
	for _, l := range tests {
		if row, won, lost, e := Send(l); row != "" || won != 0 || len(lost) != 0 || e != api.ErrTwice {
			t.Errorf("Send(%+v): %q, %d, %v, %d, want ErrTwice", l, row, won, lost, e)
		}
	}
}

var firstTests = []struct {
	what string
	l    []api.Frame
	want int
	e    api.Errno
}{
	{"one", []api.Frame{short(5)}, 0, api.OK},
	{"two", []api.Frame{short(7), short(3)}, 1, api.OK},
	{"two, the other way", []api.Frame{short(3), short(7)}, 0, api.OK},
	{"by number, not by how it is written", []api.Frame{short(10), short(9), short(100)}, 1, api.OK},
	{"the first bit", []api.Frame{short(1024), short(1023)}, 1, api.OK},
	{"the last bit", []api.Frame{short(2046), short(2047)}, 0, api.OK},
	{"as many as may be", []api.Frame{short(6), short(5), short(4), short(3), short(2), short(1)}, 5, api.OK},
	{"Remote goes behind", []api.Frame{remote(short(5), 0), short(5)}, 1, api.OK},
	{"Remote goes ahead of the next", []api.Frame{short(6), remote(short(5), 8)}, 1, api.OK},
	{"Long goes behind", []api.Frame{long(5 << 18), short(5)}, 1, api.OK},
	{"Long goes behind Remote", []api.Frame{remote(short(5), 2), long(5 << 18)}, 0, api.OK},
	{"Long goes ahead of the next", []api.Frame{short(6), long(6<<18 - 1)}, 1, api.OK},
	{"Long goes behind the lesser one", []api.Frame{long(1 << 18), short(0)}, 1, api.OK},
	{"Long, of a greater number, goes ahead", []api.Frame{short(2047), long(1 << 28)}, 1, api.OK},
	{"Long: the last bit", []api.Frame{long(api.MaxLong), long(api.MaxLong - 1)}, 1, api.OK},
	{"Long: Remote goes behind", []api.Frame{remote(long(9), 0), long(9)}, 1, api.OK},
	{"two alike go behind", []api.Frame{short(6), short(6), short(5)}, 2, api.OK},
	{"two of one Name go behind", []api.Frame{short(6, 1), short(5), short(6, 2)}, 1, api.OK},

	{"alike", []api.Frame{short(5), short(5)}, 0, api.ErrTwice},
	{"alike, and one behind", []api.Frame{short(6), short(5), short(5)}, 0, api.ErrTwice},
	{"alike, and one between", []api.Frame{short(5), short(6), short(5)}, 0, api.ErrTwice},
	{"all alike", []api.Frame{short(5), short(5), short(5), short(5), short(5), short(5)}, 0, api.ErrTwice},
	{"one Name, other data", []api.Frame{short(5, 1), short(5, 0)}, 0, api.ErrTwice},
	{"one Name, more data", []api.Frame{short(5), short(5, 0)}, 0, api.ErrTwice},
	{"one Name, Fast", []api.Frame{short(5), fast(short(5))}, 0, api.ErrTwice},
	{"one Name, Long and Fast", []api.Frame{long(5), fast(long(5))}, 0, api.ErrTwice},
	{"one Name, other sizes", []api.Frame{remote(short(5), 1), remote(short(5), 2)}, 0, api.ErrTwice},
}

func TestFirst(t *testing.T) {
	for _, x := range firstTests {
		if n, e := First(x.l); n != x.want || e != x.e {
			t.Errorf("%s: %d, %d, want %d, %d", x.what, n, e, x.want, x.e)
		}
	}
}

// Frames that can't be, one for each of Check's errors.
var (
	noRange = api.Frame{ID: -1}
	noForm  = api.Frame{Remote: true, Fast: true}
	noMany  = api.Frame{Data: make([]byte, 9)}
)

// TestWrongLists: what both Send and First say of a list.
func TestWrongLists(t *testing.T) {
	ok := short(5)
	tests := []struct {
		what string
		l    []api.Frame
		e    api.Errno
	}{
		{"none", nil, api.ErrWho},
		{"none, but a list", []api.Frame{}, api.ErrWho},
		{"one too many", make([]api.Frame, api.MaxNodes+1), api.ErrMany},
		{"far too many", make([]api.Frame, 100000), api.ErrMany},
		{"too many, and a wrong one", append(make([]api.Frame, api.MaxNodes), noRange), api.ErrMany},
		{"too many, and a wrong one first", append([]api.Frame{noForm}, make([]api.Frame, api.MaxNodes)...), api.ErrMany},
		{"a wrong one alone", []api.Frame{noForm}, api.ErrForm},
		{"a wrong one first", []api.Frame{noRange, ok, short(6)}, api.ErrRange},
		{"a wrong one in the middle", []api.Frame{ok, noMany, short(6)}, api.ErrMany},
		{"a wrong one last", []api.Frame{ok, short(6), noForm}, api.ErrForm},
		{"the last one of all that may be", []api.Frame{ok, short(6), short(7), short(8), short(9), noRange}, api.ErrRange},
		{"beside two alike", []api.Frame{ok, ok, noForm}, api.ErrForm},
		{"two wrong ones", []api.Frame{ok, noForm, noRange}, api.ErrForm},
		{"two wrong ones, the other way", []api.Frame{noRange, ok, noForm}, api.ErrRange},
		{"two wrong ones, the last ones", []api.Frame{ok, ok, noMany, noForm}, api.ErrMany},
		{"all fit but for their sizes", []api.Frame{{ID: 5, Size: 1}, fast(short(5, make([]byte, 9)...))}, api.ErrRange},
	}
	for _, x := range tests {
		if row, won, lost, e := Send(x.l); row != "" || won != 0 || len(lost) != 0 || e != x.e {
			t.Errorf("Send, %s: %q, %d, %v, %d, want %d", x.what, row, won, lost, e, x.e)
		}
		if n, e := First(x.l); n != 0 || e != x.e {
			t.Errorf("First, %s: %d, %d, want %d", x.what, n, e, x.e)
		}
	}
}

// pool is frames of all kinds that begin alike in many ways, some of one Name.
func pool() []api.Frame {
	var l []api.Frame
	for _, id := range []int{0, 1, 5, 31, 32, 33, 1023, 1024, alternating, 2046, 2047} {
		l = append(l, short(id), short(id, 0), short(id, mixed(8, id)...), short(id, 0xFF, 0xFF))
		l = append(l, remote(short(id), 0), remote(short(id), 8))
		l = append(l, fast(short(id)), fast(short(id, mixed(64, id)...)), fast(short(id, mixed(16, id)...)))
		for _, more := range []int{0, 1, 0x1F000, 0x15555, 0x3FFFF} {
			n := id<<18 | more
			l = append(l, long(n), long(n, mixed(8, n)...), remote(long(n), 1), fast(long(n, mixed(20, n)...)))
		}
	}
	return l
}

// chosen are lists of up to api.MaxNodes of the pool: each frame beside itself
// and those behind it, and many that are chosen without a plain order.
func chosen() [][]api.Frame {
	var lists [][]api.Frame
	l := pool()
	for i, f := range l {
		for j := range 40 {
			lists = append(lists, []api.Frame{f, l[(i+j)%len(l)]})
		}
	}
	x := uint32(1)
	next := func(n int) int {
		x = x*1664525 + 1013904223
		return int(x>>16) % n
	}
	for range 6000 {
		var some []api.Frame
		start, width := next(len(l)), 1+next(len(l))
		for range 1 + next(api.MaxNodes) {
			some = append(some, l[(start+next(width))%len(l)])
		}
		lists = append(lists, some)
	}
	return lists
}

// sendTold is Send by another way: of the rows, the one that comes first as a
// text; each of the others gives way where it first differs from that one.
func sendTold(rows []string) (string, int, []int, api.Errno) {
	least := slices.Min(rows)
	won, times := 0, 0
	lost := make([]int, len(rows))
	for i, b := range rows {
		if b == least {
			won, lost[i] = i, -1
			times++
			continue
		}
		for b[lost[i]] == least[lost[i]] {
			lost[i]++
		}
	}
	if times > 1 {
		return "", 0, nil, api.ErrTwice
	}
	return least, won, lost, api.OK
}

// nameTold is Name by another way.
func nameTold(f api.Frame) string {
	remote := "0"
	if f.Remote {
		remote = "1"
	}
	if f.Long {
		id := fmt.Sprintf("%029b", f.ID)
		return id[:11] + "11" + id[11:] + remote
	}
	return fmt.Sprintf("%011b", f.ID) + remote + "0"
}

// firstTold is First by another way: each against each.
func firstTold(l []api.Frame) (int, api.Errno) {
	for i, f := range l {
		ahead, alike := 0, 0
		for _, g := range l {
			if nameTold(g) < nameTold(f) {
				ahead++
			}
			if nameTold(g) == nameTold(f) {
				alike++
			}
		}
		if ahead == 0 && alike == 1 {
			return i, api.OK
		}
	}
	return 0, api.ErrTwice
}

func TestSendTold(t *testing.T) {
	for _, l := range chosen() {
		var rows []string
		for _, f := range l {
			rows = append(rows, bitsOf(t, f))
		}
		row, won, lost, e := Send(l)
		wantRow, wantWon, wantLost, wantE := sendTold(rows)
		if row != wantRow || won != wantWon || !slices.Equal(lost, wantLost) || e != wantE {
			t.Fatalf("Send(%+v): %q, %d, %v, %d, want %q, %d, %v, %d", l, row, won, lost, e, wantRow, wantWon, wantLost, wantE)
		}
	}
}

func TestFirstTold(t *testing.T) {
	for _, l := range chosen() {
		n, e := First(l)
		if want, wantE := firstTold(l); n != want || e != wantE {
			t.Fatalf("First(%+v): %d, %d, want %d, %d", l, n, e, want, wantE)
		}
	}
}

// TestFirstWins: the bus is the winner's bits, and what is read of it is the
// winner; where there is a First, it wins. Both are met often.
func TestFirstWins(t *testing.T) {
	firsts, others, twice := 0, 0, 0
	for _, l := range chosen() {
		row, won, _, e := Send(l)
		first, firstE := First(l)
		switch {
		case e == api.OK && firstE == api.OK:
			firsts++
		case e == api.OK:
			others++
		default:
			twice++
		}
		if firstE == api.OK && (e != api.OK || won != first) {
			t.Fatalf("%+v: %d is the first, %d won, %d", l, first, won, e)
		}
		if e != api.OK {
			continue
		}
		got, n, readE := frame.Read(row)
		if row != bitsOf(t, l[won]) || !frame.Same(got, l[won]) || n != len(row) || readE != api.OK {
			t.Fatalf("%+v: %d won, the bus is %q, of which %+v is read", l, won, row, got)
		}
	}
	if firsts < 100 || others < 100 || twice < 100 {
		t.Errorf("%d with a First, %d without, %d with two that are alike: too few", firsts, others, twice)
	}
}
