package check

import (
	"math"
	"strings"
	"testing"

	"omnibus/api"
	"omnibus/bits"
)

// told is what the document says of a kind, written again, as rows.
type told struct {
	size              int
	poly, start, last string // poly with its highest bit
}

var kinds = []told{
	{15, "1100010110011001", rows("0", 15), rows("0", 15)},
	{17, "110110100001011011", "1" + rows("0", 16), rows("0", 17)},
	{21, "1100000010100010011001", "1" + rows("0", 20), rows("0", 21)},
	{8, "100101111", rows("1", 8), rows("1", 8)},
	{16, "10001000000100001", rows("1", 16), rows("0", 16)},
}

// noKinds are numbers of which there is no kind.
var noKinds = []int{-1, 5, 6, -5, math.MinInt, math.MaxInt}

// wrongRows are texts that are no rows, and what bits.Check says of them.
var wrongRows = []struct {
	b string
	e api.Errno
}{
	{"2", api.ErrForm},
	{"/", api.ErrForm},
	{"01 ", api.ErrForm},
	{"x11111", api.ErrForm},
	{"0\x001", api.ErrForm},
	{"\xff", api.ErrForm},
	{"\u0660\uff11", api.ErrForm}, // digits of other scripts
	{rows("0", 30) + "x", api.ErrForm},
	{rows("0", 20) + "x" + rows("0", 30), api.ErrForm},
	{rows("0", 999) + "x", api.ErrForm},
	{rows("01", 500) + "0", api.ErrMany},
	{rows("0", api.MaxBits+1), api.ErrMany},
	{rows("x", api.MaxBits+1), api.ErrMany},
}

func rows(b string, n int) string { return strings.Repeat(b, n) }

// allRows are the rows of just n bits.
func allRows(n int) []string {
	l := []string{""}
	for range n {
		var next []string
		for _, b := range l {
			next = append(next, b+"0", b+"1")
		}
		l = next
	}
	return l
}

// mixed is a row of n bits without a plain order; other seeds, other rows.
func mixed(n, seed int) string {
	var row []byte
	x := uint32(seed)*2654435761 + 12345
	for range n {
		x = x*1664525 + 1013904223
		row = append(row, '0'+byte(x>>31))
	}
	return string(row)
}

// someRows are rows of many lengths, the longest that may be among them.
func someRows() []string {
	var l []string
	for size := range 9 {
		l = append(l, allRows(size)...)
	}
	for _, n := range []int{14, 15, 16, 17, 18, 20, 21, 22, 64, 83, 500, 979, 999, api.MaxBits} {
		l = append(l, rows("0", n), rows("1", n), rows("01", n)[:n], rows("0", n-1)+"1", "1"+rows("0", n-1))
		for seed := range 5 {
			l = append(l, mixed(n, seed))
		}
	}
	return l
}

// turnedBy is a, turned where by has a 1; both are as long as one another.
func turnedBy(a, by string) string {
	row := []byte(a)
	for i := range row {
		row[i] ^= by[i] - '0' // the bytes 0 and 1 differ by their lowest bit alone
	}
	return string(row)
}

// at is a row of n bits, 0 but for what stands from place on.
func at(what string, place, n int) string {
	return rows("0", place) + what + rows("0", n-place-len(what))
}

// byDivision is Sum by another way: the row with as many 0 behind it, turned
// by the start at its front, divided on paper; what is left is the sum.
func byDivision(k told, b string) string {
	row := []byte(turnedBy(b+rows("0", k.size), at(k.start, 0, len(b)+k.size)))
	for i := range len(b) {
		if row[i] == '1' {
			copy(row[i:], turnedBy(string(row[i:i+len(k.poly)]), k.poly))
		}
	}
	return turnedBy(string(row[len(b):]), k.last)
}

// sumOf is the Sum of what has one.
func sumOf(t *testing.T, kind int, b string) string {
	t.Helper()
	s, e := Sum(kind, b)
	if e != api.OK {
		t.Fatalf("Sum(%d, %q): %d", kind, b, e)
	}
	return s
}

func TestSum(t *testing.T) {
	digits, _ := bits.Of([]byte("123456789"))
	tests := []struct {
		kind int
		b    string
		want int
	}{
		{0, "", 0},
		{1, "", 0x10000},
		{2, "", 0x100000},
		{3, "", 0}, // FF, turned by FF
		{4, "", 0xFFFF},
		{0, "0", 0},
		{0, "1", 0x4599},
		{0, "01", 0x4599},
		{0, "11", 0x0B32}, // a 1 goes out at the left, and the bit is 1 too: not turned
		{0, "10", 0x0B32 ^ 0x4599},
		{1, "0", 0x1685B},
		{1, "1", 0},
		{2, "0", 0x102899},
		{2, "1", 0},
		{3, "0", 0xFE ^ 0x2F ^ 0xFF},
		{3, "1", 0xFE ^ 0xFF},
		{4, "0", 0xFFFE ^ 0x1021},
		{4, "1", 0xFFFE},
		{3, "11111111", 0xFF}, // the row takes the start away, and what is left is turned
		{4, rows("1", 16), 0},
		{1, "1" + rows("0", 16), 0},
		{2, "1" + rows("0", 20), 0},
		{0, rows("0", api.MaxBits), 0},
		{0, digits, 0x059E},
		{3, digits, 0xDF},
		{4, digits, 0x29B1},
	}
	for _, x := range tests {
		want, _ := bits.Row(x.want, kinds[x.kind].size)
		if s, e := Sum(x.kind, x.b); s != want || e != api.OK {
			t.Errorf("Sum(%d, %q): %q, %d, want %q", x.kind, x.b, s, e, want)
		}
	}
}

// TestSumOfBytes: sums that are known of these two kinds.
func TestSumOfBytes(t *testing.T) {
	tests := []struct {
		l        []byte
		at3, at4 int
	}{
		{[]byte{0, 0, 0, 0}, 0x12, 0x84C0},
		{[]byte{0xF2, 0x01, 0x83}, 0xC2, 0xD374},
		{[]byte{0x0F, 0xAA, 0x00, 0x55}, 0xC6, 0x2023},
		{[]byte{0x00, 0xFF, 0x55, 0x11}, 0x77, 0xB8F9},
		{[]byte{0x33, 0x22, 0x55, 0xAA, 0xBB, 0xCC, 0xDD, 0xEE, 0xFF}, 0x11, 0xF53F},
		{[]byte{0x92, 0x6B, 0x55}, 0x33, 0x0745},
		{[]byte{0xFF, 0xFF, 0xFF, 0xFF}, 0x6C, 0x1D0F},
	}
	for _, x := range tests {
		b, _ := bits.Of(x.l)
		if n, e := bits.Number(sumOf(t, 3, b)); n != x.at3 || e != api.OK {
			t.Errorf("Sum(3) of %x: %x, want %x", x.l, n, x.at3)
		}
		if n, e := bits.Number(sumOf(t, 4, b)); n != x.at4 || e != api.OK {
			t.Errorf("Sum(4) of %x: %x, want %x", x.l, n, x.at4)
		}
	}
}

func TestSumByDivision(t *testing.T) {
	for kind, k := range kinds {
		for _, b := range someRows() {
			if s, e := Sum(kind, b); s != byDivision(k, b) || e != api.OK {
				t.Errorf("Sum(%d, %q): %q, %d, want %q", kind, b, s, e, byDivision(k, b))
			}
		}
	}
}

func TestSize(t *testing.T) {
	for kind, k := range kinds {
		if n, e := Size(kind); n != k.size || e != api.OK {
			t.Errorf("Size(%d): %d, %d, want %d", kind, n, e, k.size)
		}
		for _, b := range someRows() {
			if s := sumOf(t, kind, b); len(s) != k.size {
				t.Errorf("Sum(%d, %q): %q, want %d bits", kind, b, s, k.size)
			}
		}
	}
}

func TestHolds(t *testing.T) {
	for kind, k := range kinds {
		for _, ahead := range someRows() {
			b := ahead + byDivision(k, ahead)
			if len(b) > api.MaxBits {
				continue
			}
			if ok, e := Holds(kind, b); !ok || e != api.OK {
				t.Errorf("Holds(%d, %q): %t, %d, want true", kind, b, ok, e)
			}
		}
	}
}

// TestHoldsAtLength: the longest row that may be, and the shortest.
func TestHoldsAtLength(t *testing.T) {
	for kind, k := range kinds {
		ahead := mixed(api.MaxBits-k.size, kind)
		b := ahead + byDivision(k, ahead)
		if ok, e := Holds(kind, b); !ok || e != api.OK {
			t.Errorf("Holds(%d, %q): %t, %d, want true", kind, b, ok, e)
		}
		ahead += "0"
		if ok, e := Holds(kind, ahead+byDivision(k, ahead)); ok || e != api.ErrMany {
			t.Errorf("Holds(%d, one bit too many): %t, %d, want ErrMany", kind, ok, e)
		}
		empty := turnedBy(k.start, k.last)
		if ok, e := Holds(kind, empty); !ok || e != api.OK {
			t.Errorf("Holds(%d, %q): %t, %d, want true", kind, empty, ok, e)
		}
		for i := range k.size {
			b := turnedBy(empty, at("1", i, k.size))
			if ok, e := Holds(kind, b); ok || e != api.OK {
				t.Errorf("Holds(%d, %q): %t, %d, want false", kind, b, ok, e)
			}
		}
		for n := range k.size {
			for _, b := range []string{rows("0", n), rows("1", n), empty[:n], empty[k.size-n:]} {
				if ok, e := Holds(kind, b); ok || e != api.ErrShort {
					t.Errorf("Holds(%d, %q): %t, %d, want ErrShort", kind, b, ok, e)
				}
			}
		}
	}
}

// TestHoldsOfAll: of all rows of some bits just those hold that end so.
func TestHoldsOfAll(t *testing.T) {
	for kind, k := range kinds {
		for _, ahead := range []string{"", "0", "1", "1011", mixed(20, 3)} {
			want := byDivision(k, ahead)
			for _, end := range allRows(8) {
				s := want[:k.size-8] + end
				if ok, e := Holds(kind, ahead+s); ok != (s == want) || e != api.OK {
					t.Errorf("Holds(%d, %q): %t, %d", kind, ahead+s, ok, e)
				}
			}
		}
	}
}

// TestHoldsTheTurnedSum: the sum as it was ahead of the last turning doesn't hold.
func TestHoldsTheTurnedSum(t *testing.T) {
	for _, b := range someRows() {
		if len(b) > api.MaxBits-8 {
			continue
		}
		s, _ := bits.Turned(sumOf(t, 3, b))
		if ok, e := Holds(3, b+s); ok || e != api.OK {
			t.Errorf("Holds(3, %q): %t, %d, want false", b+s, ok, e)
		}
	}
}

// TestOneTurned: whichever bit is turned, of the row or of its sum, it is seen.
func TestOneTurned(t *testing.T) {
	for kind, k := range kinds {
		for _, n := range []int{1, 2, 40, api.MaxBits - k.size} {
			b := mixed(n, kind)
			s := sumOf(t, kind, b)
			for i := range n + k.size {
				bad := turnedBy(b+s, at("1", i, n+k.size))
				if i < n && sumOf(t, kind, bad[:n]) == s {
					t.Errorf("Sum(%d): bit %d of %d turned, and the same sum", kind, i, n)
				}
				if ok, e := Holds(kind, bad); ok || e != api.OK {
					t.Errorf("Holds(%d): bit %d of %d turned: %t, %d", kind, i, n, ok, e)
				}
			}
		}
	}
}

// bursts are rows of n bits with which some bits are turned: many of them, and those at both ends.
func bursts(n int) []string {
	if n <= 8 {
		return allRows(n)[1:]
	}
	var l []string
	for i := range n {
		for j := range i {
			l = append(l, turnedBy(at("1", i, n), at("1", j, n)))
		}
	}
	for seed := range 200 {
		l = append(l, "1"+mixed(n-2, seed)+"1")
	}
	return append(l, rows("1", n), rows("01", n)[:n])
}

// TestManyTurned: whatever is turned within as many bits as the sum has is seen.
func TestManyTurned(t *testing.T) {
	for kind, k := range kinds {
		n := k.size + 30
		b := mixed(n, kind)
		s := sumOf(t, kind, b)
		for _, what := range bursts(k.size) {
			for i := range n + 1 {
				bad := turnedBy(b+s, at(what, i, n+k.size))
				if i+k.size <= n && sumOf(t, kind, bad[:n]) == s {
					t.Fatalf("Sum(%d): %q turned at %d, and the same sum", kind, what, i)
				}
				if ok, e := Holds(kind, bad); ok || e != api.OK {
					t.Fatalf("Holds(%d): %q turned at %d: %t, %d", kind, what, i, ok, e)
				}
			}
		}
	}
}

// TestOneMoreTurned: within one bit more it may go unseen: there the polynomial itself does.
func TestOneMoreTurned(t *testing.T) {
	for kind, k := range kinds {
		b := mixed(50, kind)
		bad := turnedBy(b, at(k.poly, 7, 50))
		if sumOf(t, kind, b) != sumOf(t, kind, bad) {
			t.Errorf("Sum(%d): the polynomial changes it", kind)
		}
	}
}

// TestThreeRows: three rows and their sums may be turned by one another, in whichever order.
func TestThreeRows(t *testing.T) {
	for kind := range kinds {
		for _, n := range []int{0, 1, 2, 8, 15, 16, 17, 21, 64, 300, api.MaxBits} {
			for seed := range 10 {
				a, b, c := mixed(n, seed), mixed(n, seed+100), mixed(n, seed+200)
				s := turnedBy(turnedBy(sumOf(t, kind, a), sumOf(t, kind, b)), sumOf(t, kind, c))
				if got := sumOf(t, kind, turnedBy(turnedBy(a, b), c)); got != s {
					t.Errorf("Sum(%d) of three rows of %d bits: %q, want %q", kind, n, got, s)
				}
			}
		}
	}
}

func TestNoKind(t *testing.T) {
	for _, kind := range noKinds {
		if n, e := Size(kind); n != 0 || e != api.ErrWho {
			t.Errorf("Size(%d): %d, %d, want ErrWho", kind, n, e)
		}
		for _, b := range []string{"", "1", rows("1", 7), rows("0", 30), rows("0", api.MaxBits)} {
			if s, e := Sum(kind, b); s != "" || e != api.ErrWho {
				t.Errorf("Sum(%d, %q): %q, %d, want ErrWho", kind, b, s, e)
			}
			if ok, e := Holds(kind, b); ok || e != api.ErrWho {
				t.Errorf("Holds(%d, %q): %t, %d, want ErrWho", kind, b, ok, e)
			}
		}
	}
}

// TestWrongRows: Check's error comes ahead of all others, also of one by the kind or by the length.
func TestWrongRows(t *testing.T) {
	for _, w := range wrongRows {
		for _, kind := range append([]int{0, 1, 2, 3, 4}, noKinds...) {
			if s, e := Sum(kind, w.b); s != "" || e != w.e {
				t.Errorf("Sum(%d, %q): %q, %d, want none, %d", kind, w.b, s, e, w.e)
			}
			if ok, e := Holds(kind, w.b); ok || e != w.e {
				t.Errorf("Holds(%d, %q): %t, %d, want false, %d", kind, w.b, ok, e, w.e)
			}
		}
	}
}
