package bits

import (
	"bytes"
	"math"
	"strconv"
	"strings"
	"testing"

	"omnibus/api"
)

// wrongRows are texts that are no rows, and what Check says of them.
var wrongRows = []struct {
	b string
	e api.Errno
}{
	{"2", api.ErrForm},
	{"/", api.ErrForm},
	{" ", api.ErrForm},
	{"01 ", api.ErrForm},
	{"0101x", api.ErrForm},
	{"x0101", api.ErrForm},
	{"0\x001", api.ErrForm},
	{"0101\n", api.ErrForm},
	{"-1", api.ErrForm},
	{"\xff", api.ErrForm},
	{"\xc0\xb0", api.ErrForm},           // an overlong '0'
	{"\u0660\uff11", api.ErrForm},       // digits of other scripts
	{"0000000\ufffd", api.ErrForm},      // the rune that stands for a broken one
	{rows("0", 999) + "x", api.ErrForm}, // just as long as may be
	{rows("0", 1001), api.ErrMany},
	{rows("1", 5000), api.ErrMany},
	{rows("x", 1001), api.ErrMany},           // both apply: the length is told first
	{rows("0", 999) + "\u00e9", api.ErrMany}, // 1000 runes, but 1001 bytes
}

func rows(b string, n int) string { return strings.Repeat(b, n) }

// allRows are the rows of just n bits, by an other way than the program's.
func allRows(n int) []string {
	l := []string{""}
	for range n {
		var next []string
		for _, b := range l {
			next = append(next, b+"0", b+"1")
		}
		l = next
	}
	return l
}

func TestCheck(t *testing.T) {
	good := []string{"", "0", "1", "0101", rows("1", 63), rows("01", 500), rows("0", api.MaxBits)}
	for _, b := range good {
		if e := Check(b); e != api.OK {
			t.Errorf("Check(%q): %d", b, e)
		}
	}
	for _, w := range wrongRows {
		if e := Check(w.b); e != w.e {
			t.Errorf("Check(%q): %d, want %d", w.b, e, w.e)
		}
	}
}

func TestCheckEveryByte(t *testing.T) {
	for c := range 256 {
		want := api.ErrForm
		if c == '0' || c == '1' {
			want = api.OK
		}
		for _, b := range []string{string([]byte{byte(c)}), string([]byte{'0', byte(c), '1'})} {
			if e := Check(b); e != want {
				t.Errorf("Check(%q): %d, want %d", b, e, want)
			}
		}
	}
}

// TestWrongRows: whoever takes a row answers Check's error, and zero beside it.
func TestWrongRows(t *testing.T) {
	for _, w := range wrongRows {
		if n, e := Number(w.b); n != 0 || e != w.e {
			t.Errorf("Number(%q): %d, %d, want 0, %d", w.b, n, e, w.e)
		}
		if l, e := Bytes(w.b); len(l) != 0 || e != w.e {
			t.Errorf("Bytes(%q): %v, %d, want none, %d", w.b, l, e, w.e)
		}
		if b, e := Turned(w.b); b != "" || e != w.e {
			t.Errorf("Turned(%q): %q, %d, want none, %d", w.b, b, e, w.e)
		}
		if n, e := Run(w.b); n != 0 || e != w.e {
			t.Errorf("Run(%q): %d, %d, want 0, %d", w.b, n, e, w.e)
		}
	}
}

func TestNumber(t *testing.T) {
	tests := []struct {
		b string
		n int
		e api.Errno
	}{
		{"", 0, api.OK},
		{"0", 0, api.OK},
		{"1", 1, api.OK},
		{"10", 2, api.OK},
		{"1010", 10, api.OK},
		{"0001", 1, api.OK},
		{"1000", 8, api.OK},
		{rows("0", 62), 0, api.OK},
		{"1" + rows("0", 61), 1 << 61, api.OK},
		{rows("1", 62), 1<<62 - 1, api.OK},
		{rows("0", 63), 0, api.ErrMany},
		{rows("1", 63), 0, api.ErrMany},
		{rows("1", api.MaxBits), 0, api.ErrMany},
		{rows("1", 63) + "2", 0, api.ErrForm}, // Check's error comes first
	}
	for _, x := range tests {
		if n, e := Number(x.b); n != x.n || e != x.e {
			t.Errorf("Number(%q): %d, %d, want %d, %d", x.b, n, e, x.n, x.e)
		}
	}
}

func TestRow(t *testing.T) {
	tests := []struct {
		n, size int
		b       string
		e       api.Errno
	}{
		{0, 0, "", api.OK},
		{0, 1, "0", api.OK},
		{1, 1, "1", api.OK},
		{5, 6, "000101", api.OK},
		{7, 3, "111", api.OK},
		{0, 62, rows("0", 62), api.OK},
		{1<<62 - 1, 62, rows("1", 62), api.OK},
		{1 << 61, 62, "1" + rows("0", 61), api.OK},
		{1, 0, "", api.ErrRange},
		{2, 1, "", api.ErrRange},
		{8, 3, "", api.ErrRange},
		{1 << 61, 61, "", api.ErrRange},
		{1 << 62, 62, "", api.ErrRange},
		{math.MaxInt, 62, "", api.ErrRange},
		{-1, 0, "", api.ErrRange},
		{-1, 3, "", api.ErrRange},
		{-1, 62, "", api.ErrRange},
		{math.MinInt, 62, "", api.ErrRange},
		{0, -1, "", api.ErrMany},
		{0, 63, "", api.ErrMany},
		{0, 64, "", api.ErrMany},
		{0, math.MinInt, "", api.ErrMany},
		{0, math.MaxInt, "", api.ErrMany},
		{-1, -1, "", api.ErrMany}, // both apply: the size is told first
		{-1, 63, "", api.ErrMany},
		{1, -1, "", api.ErrMany},
	}
	for _, x := range tests {
		if b, e := Row(x.n, x.size); b != x.b || e != x.e {
			t.Errorf("Row(%d, %d): %q, %d, want %q, %d", x.n, x.size, b, e, x.b, x.e)
		}
	}
}

// TestRowBack: rows in their order are the numbers from 0 on, and each goes back.
func TestRowBack(t *testing.T) {
	for size := range 11 {
		for n, want := range allRows(size) {
			if b, e := Row(n, size); b != want || e != api.OK {
				t.Errorf("Row(%d, %d): %q, %d, want %q", n, size, b, e, want)
			}
			if got, e := Number(want); got != n || e != api.OK {
				t.Errorf("Number(%q): %d, %d, want %d", want, got, e, n)
			}
		}
	}
}

// TestRowEachSize: at every size the greatest number fits, and the next one does not.
func TestRowEachSize(t *testing.T) {
	for size := range 63 {
		top := 1<<size - 1
		if b, e := Row(top, size); b != rows("1", size) || e != api.OK {
			t.Errorf("Row(%d, %d): %q, %d", top, size, b, e)
		}
		if b, e := Row(top+1, size); b != "" || e != api.ErrRange {
			t.Errorf("Row(%d, %d): %q, %d, want none, %d", top+1, size, b, e, api.ErrRange)
		}
	}
}

func TestOf(t *testing.T) {
	tests := []struct {
		l []byte
		b string
		e api.Errno
	}{
		{nil, "", api.OK},
		{[]byte{}, "", api.OK},
		{[]byte{0}, "00000000", api.OK},
		{[]byte{255}, "11111111", api.OK},
		{[]byte{1, 0xf0}, "0000000111110000", api.OK},
		{[]byte{0x80, 0x01, 0x5a}, "100000000000000101011010", api.OK},
		{bytes.Repeat([]byte{0xa5}, 125), rows("10100101", 125), api.OK},
		{make([]byte, 126), "", api.ErrMany},
		{make([]byte, 1000), "", api.ErrMany},
	}
	for _, x := range tests {
		if b, e := Of(x.l); b != x.b || e != x.e {
			t.Errorf("Of(%v): %q, %d, want %q, %d", x.l, b, e, x.b, x.e)
		}
	}
}

func TestBytes(t *testing.T) {
	tests := []struct {
		b string
		l []byte
		e api.Errno
	}{
		{"", nil, api.OK},
		{"00000000", []byte{0}, api.OK},
		{"11111111", []byte{255}, api.OK},
		{"0000000111110000", []byte{1, 0xf0}, api.OK},
		{rows("10100101", 125), bytes.Repeat([]byte{0xa5}, 125), api.OK},
		{"0", nil, api.ErrForm},
		{"0000", nil, api.ErrForm},
		{"1111111", nil, api.ErrForm},
		{"111111111", nil, api.ErrForm},
		{rows("1", 999), nil, api.ErrForm},
		{rows("1", 1001), nil, api.ErrMany}, // both apply: Check's error comes first
		{rows("1", 1008), nil, api.ErrMany},
	}
	for _, x := range tests {
		if l, e := Bytes(x.b); !bytes.Equal(l, x.l) || e != x.e {
			t.Errorf("Bytes(%q): %v, %d, want %v, %d", x.b, l, e, x.l, x.e)
		}
	}
}

// TestBytesBack: every byte, and every number of them, goes there and back.
func TestBytesBack(t *testing.T) {
	for c := range 256 {
		want := strconv.FormatInt(int64(c), 2)
		want = rows("0", 8-len(want)) + want
		if b, e := Of([]byte{byte(c)}); b != want || e != api.OK {
			t.Errorf("Of(%d): %q, %d, want %q", c, b, e, want)
		}
	}
	var l []byte
	for n := range 126 {
		b, e := Of(l)
		if len(b) != 8*n || e != api.OK {
			t.Fatalf("Of %d bytes: %d bits, %d", n, len(b), e)
		}
		if back, e := Bytes(b); !bytes.Equal(back, l) || e != api.OK {
			t.Fatalf("Bytes(Of(%v)): %v, %d", l, back, e)
		}
		l = append(l, byte(n*37+11))
	}
}

// TestMemory: what is handed in stays, with the room behind it, and no answer shares memory.
func TestMemory(t *testing.T) {
	room := []byte{1, 2, 3, 4, 5, 6}
	if b, e := Of(room[1:3]); b != "0000001000000011" || e != api.OK {
		t.Errorf("Of: %q, %d", b, e)
	}
	if !bytes.Equal(room, []byte{1, 2, 3, 4, 5, 6}) {
		t.Errorf("Of changed what was handed in: %v", room)
	}
	row := "0000001000000011"
	first, _ := Bytes(row)
	first[0], first[1] = 99, 99
	_ = append(first[:0], 77)
	if second, e := Bytes(row); !bytes.Equal(second, []byte{2, 3}) || e != api.OK {
		t.Errorf("Bytes, again: %v, %d", second, e)
	}
}

func TestTurned(t *testing.T) {
	tests := []struct{ b, want string }{
		{"", ""},
		{"0", "1"},
		{"1", "0"},
		{"1000", "0111"},
		{"0101", "1010"},
		{rows("0", api.MaxBits), rows("1", api.MaxBits)},
		{rows("1", api.MaxBits), rows("0", api.MaxBits)},
		{rows("1", 63) + "0", rows("0", 63) + "1"},
	}
	for _, x := range tests {
		if b, e := Turned(x.b); b != x.want || e != api.OK {
			t.Errorf("Turned(%q): %q, %d, want %q", x.b, b, e, x.want)
		}
	}
}

// TestTurnedNumber: a row and the turned one make all ones together.
func TestTurnedNumber(t *testing.T) {
	for size := range 11 {
		for n, b := range allRows(size) {
			turned, e := Turned(b)
			if e != api.OK || len(turned) != size {
				t.Fatalf("Turned(%q): %q, %d", b, turned, e)
			}
			if got, e := Number(turned); got != 1<<size-1-n || e != api.OK {
				t.Errorf("Turned(%q): %q", b, turned)
			}
		}
	}
}

func TestRun(t *testing.T) {
	tests := []struct {
		b string
		n int
	}{
		{"", 0},
		{"0", 1},
		{"1", 1},
		{"01", 1},
		{"00", 2},
		{"1100010", 3},
		{"1110001", 3},
		{"0100", 2},
		{"0010", 2},
		{"01111", 4},
		{"000100001", 4},
		{rows("01", 500), 1},
		{rows("0", api.MaxBits), api.MaxBits},
		{rows("1", api.MaxBits), api.MaxBits},
		{rows("0", 499) + rows("1", 501), 501},
		{rows("0", 501) + rows("1", 499), 501},
	}
	for _, x := range tests {
		if n, e := Run(x.b); n != x.n || e != api.OK {
			t.Errorf("Run(%q): %d, %d, want %d", x.b, n, e, x.n)
		}
	}
}

// TestRunIsThere: the row has a part so long of one bit, and none that is longer.
func TestRunIsThere(t *testing.T) {
	for size := range 11 {
		for _, b := range allRows(size) {
			n, e := Run(b)
			if e != api.OK || !hasRun(b, n) || hasRun(b, n+1) {
				t.Errorf("Run(%q): %d, %d", b, n, e)
			}
		}
	}
}

func hasRun(b string, n int) bool {
	return strings.Contains(b, rows("0", n)) || strings.Contains(b, rows("1", n))
}
