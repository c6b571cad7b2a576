package stuff

import (
	"math"
	"strings"
	"testing"

	"omnibus/api"
	"omnibus/bits"
)

// wrongRows are texts that are no rows, and what bits.Check says of them.
var wrongRows = []struct {
	b string
	e api.Errno
}{
	{"2", api.ErrForm},
	{"/", api.ErrForm},
	{"01 ", api.ErrForm},
	{"11111x", api.ErrForm},
	{"x11111", api.ErrForm},
	{"0\x001", api.ErrForm},
	{"\xff", api.ErrForm},
	{"\u0660\uff11", api.ErrForm}, // digits of other scripts
	{rows("0", 999) + "x", api.ErrForm},
	{rows("01", 500) + "0", api.ErrMany},
	{rows("0", 1001), api.ErrMany},
	{rows("x", 1001), api.ErrMany},
}

// whatFollows are rows that may stand behind one that Put made.
var whatFollows = []string{"", "0", "1", "00000", "11111", "000000", "111111", "0101010101"}

func rows(b string, n int) string { return strings.Repeat(b, n) }

// allRows are the rows of just n bits.
func allRows(n int) []string {
	l := []string{""}
	for range n {
		var next []string
		for _, b := range l {
			next = append(next, b+"0", b+"1")
		}
		l = next
	}
	return l
}

// worst is the row of n bits into which most are put: each bit that is put in
// is the first of the next five.
func worst(n int) string {
	return (rows("0", 5) + rows(rows("1", 4)+rows("0", 4), n/8+1))[:n]
}

// longRows are rows of n bits, some with no place for a bit, some with as many as can be.
func longRows(n int) []string {
	return []string{
		rows("0", n), rows("1", n), rows("01", n)[:n], rows("00001", n)[:n],
		rows("111110", n)[:n], rows("0000011", n)[:n], rows("1111100000", n)[:n], worst(n),
	}
}

// putByEnds is Put by another way: it looks at how the text ends so far.
func putByEnds(b string) string {
	out := ""
	for _, r := range b {
		out += string(r)
		if strings.HasSuffix(out, "00000") {
			out += "1"
		} else if strings.HasSuffix(out, "11111") {
			out += "0"
		}
	}
	return out
}

func TestPut(t *testing.T) {
	tests := []struct{ b, want string }{
		{"", ""},
		{"0", "0"},
		{"1", "1"},
		{"1111", "1111"},
		{"0000", "0000"},
		{"11111", "111110"},
		{"00000", "000001"},
		{"111110", "1111100"},
		{"111111", "1111101"},
		{"0111110", "01111100"},
		{"11111000011", "1111100000111"}, // what was put in is the first of the next five
		{"111110000", "11111000001"},
		{"0000011110000", "0000011111000001"},
		{"1111100001", "111110000011"},
		{"0000000000", "000001000001"}, // both fives are whole
		{"1111111111", "111110111110"},
		{rows("01", 500), rows("01", 500)},
		{rows("0", api.MaxBits), rows("000001", 200)},
		{rows("1", api.MaxBits), rows("111110", 200)},
		{rows("10", 497) + "100000", rows("10", 497) + "1000001"},
	}
	for _, x := range tests {
		if b, e := Put(x.b); b != x.want || e != api.OK {
			t.Errorf("Put(%q): %q, %d, want %q", x.b, b, e, x.want)
		}
	}
}

func TestPutByEnds(t *testing.T) {
	for size := range 15 {
		for _, b := range allRows(size) {
			if got, e := Put(b); got != putByEnds(b) || e != api.OK {
				t.Errorf("Put(%q): %q, %d, want %q", b, got, e, putByEnds(b))
			}
		}
	}
	for _, b := range longRows(api.MaxBits) {
		if got, e := Put(b); got != putByEnds(b) || e != api.OK {
			t.Errorf("Put(%q): %q, %d, want %q", b, got, e, putByEnds(b))
		}
	}
}

func TestTake(t *testing.T) {
	tests := []struct {
		b    string
		n    int
		want string
		used int
		e    api.Errno
	}{
		{"", 0, "", 0, api.OK},
		{"111111", 0, "", 0, api.OK}, // what follows is not asked
		{"0101", 4, "0101", 4, api.OK},
		{"0101", 3, "010", 3, api.OK},
		{"1111100000111", 11, "11111000011", 13, api.OK},
		{"1111", 4, "1111", 4, api.OK},
		{"111111", 4, "1111", 4, api.OK},
		{"111110", 5, "11111", 6, api.OK}, // with the one behind the last
		{"1111100", 5, "11111", 6, api.OK},
		{"000001", 5, "00000", 6, api.OK},
		{"111110000", 8, "11111000", 9, api.OK},
		{"11111000001", 9, "111110000", 11, api.OK},
		{"000001000001", 10, "0000000000", 12, api.OK},
		{"000001000000", 9, "000000000", 10, api.OK},
		{rows("01", 500), api.MaxBits, rows("01", 500), 1000, api.OK},
		{rows("0", 1000), 0, "", 0, api.OK},
		{rows("0", 1000), 4, "0000", 4, api.OK},

		{"", 1, "", 0, api.ErrShort},
		{"", api.MaxBits, "", 0, api.ErrShort},
		{"0101", 5, "", 0, api.ErrShort},
		{"0101", api.MaxBits, "", 0, api.ErrShort},
		{"11111", 5, "", 0, api.ErrShort}, // in front of the one behind the last
		{"00000", 5, "", 0, api.ErrShort},
		{"1111100000", 9, "", 0, api.ErrShort},
		{"111110", 6, "", 0, api.ErrShort},

		{"111111", 5, "", 0, api.ErrStuff},
		{"000000", 5, "", 0, api.ErrStuff},
		{"000000", 6, "", 0, api.ErrStuff},
		{"000000", api.MaxBits, "", 0, api.ErrStuff}, // it comes ahead of the end
		{"01111110", 7, "", 0, api.ErrStuff},
		{"111110000001", 9, "", 0, api.ErrStuff}, // among those six is one that was put in
		{"000001111110", 9, "", 0, api.ErrStuff},

		{"", -1, "", 0, api.ErrRange},
		{"0101", -1, "", 0, api.ErrRange},
		{"0101", math.MinInt, "", 0, api.ErrRange},
		{"0101", api.MaxBits + 1, "", 0, api.ErrRange},
		{"000000", api.MaxBits + 1, "", 0, api.ErrRange},
		{"0101", math.MaxInt, "", 0, api.ErrRange},
		{rows("01", 500), api.MaxBits + 1, "", 0, api.ErrRange},
	}
	for _, x := range tests {
		if b, used, e := Take(x.b, x.n); b != x.want || used != x.used || e != x.e {
			t.Errorf("Take(%q, %d): %q, %d, %d, want %q, %d, %d", x.b, x.n, b, used, e, x.want, x.used, x.e)
		}
	}
}

// taken is Take by another way: it holds b against what Put makes of every row.
func taken(b string, put map[string]string) (string, int, api.Errno) {
	e := api.ErrStuff
	for row, made := range put {
		if strings.HasPrefix(b, made) {
			return row, len(made), api.OK
		}
		if strings.HasPrefix(made, b) {
			e = api.ErrShort
		}
	}
	return "", 0, e
}

func TestTakeByPut(t *testing.T) {
	for n := range 11 {
		put := map[string]string{}
		for _, row := range allRows(n) {
			put[row] = putByEnds(row)
		}
		for size := range 9 {
			for _, b := range allRows(size) {
				// Fives and sixes at the start, so that short rows tell all.
				for _, b := range []string{b, "0000" + b, "11111000" + b} {
					want, wantUsed, wantE := taken(b, put)
					if got, used, e := Take(b, n); got != want || used != wantUsed || e != wantE {
						t.Fatalf("Take(%q, %d): %q, %d, %d, want %q, %d, %d", b, n, got, used, e, want, wantUsed, wantE)
					}
				}
			}
		}
	}
}

// TestTakeOfPut: the row comes back, whatever follows, and nothing of what follows with it.
func TestTakeOfPut(t *testing.T) {
	var l []string
	for size := range 13 {
		l = append(l, allRows(size)...)
	}
	for size := 700; size <= 790; size += 9 { // with what follows just no longer than may be
		l = append(l, longRows(size)...)
	}
	for _, row := range l {
		made, e := Put(row)
		if e != api.OK {
			t.Fatalf("Put(%q): %d", row, e)
		}
		for _, more := range whatFollows {
			if got, used, e := Take(made+more, len(row)); got != row || used != len(made) || e != api.OK {
				t.Fatalf("Take(%q, %d): %q, %d, %d, want %q", made+more, len(row), got, used, e, row)
			}
		}
	}
}

// TestTakeOfLongest: what Put makes is taken back as long as it is a row itself.
func TestTakeOfLongest(t *testing.T) {
	last := worst(800)
	made, e := Put(last)
	if len(made) != 999 || e != api.OK {
		t.Fatalf("Put of 800 bits: %d bits, %d", len(made), e)
	}
	if got, used, e := Take(made+"1", 800); got != last || used != 999 || e != api.OK {
		t.Errorf("Take of 999 bits and one: %q, %d, %d", got, used, e)
	}
	made, e = Put(worst(801))
	if len(made) != 1001 || e != api.OK {
		t.Fatalf("Put of 801 bits: %d bits, %d", len(made), e)
	}
	if got, used, e := Take(made, 801); got != "" || used != 0 || e != api.ErrMany {
		t.Errorf("Take of 1001 bits: %q, %d, %d", got, used, e)
	}
}

// TestNoSix: no row that Put made has six alike.
func TestNoSix(t *testing.T) {
	for size := range 15 {
		for _, b := range allRows(size) {
			made, _ := Put(b)
			if n, e := bits.Run(made); n > 5 || e != api.OK {
				t.Errorf("Put(%q): %q has %d alike, %d", b, made, n, e)
			}
		}
	}
	for _, b := range longRows(api.MaxBits) {
		made, e := Put(b)
		if strings.Contains(made, "000000") || strings.Contains(made, "111111") || e != api.OK {
			t.Errorf("Put(%q): %q, %d has six alike", b, made, e)
		}
	}
}

func TestMost(t *testing.T) {
	tests := []struct {
		n, want int
		e       api.Errno
	}{
		{0, 0, api.OK},
		{1, 1, api.OK},
		{2, 2, api.OK},
		{4, 4, api.OK},
		{5, 6, api.OK},
		{6, 7, api.OK},
		{8, 9, api.OK},
		{9, 11, api.OK},
		{34, 42, api.OK},
		{800, 999, api.OK},
		{801, 1001, api.OK},
		{api.MaxBits, 1249, api.OK},
		{api.MaxBits + 1, 0, api.ErrRange},
		{-1, 0, api.ErrRange},
		{-4, 0, api.ErrRange},
		{math.MaxInt, 0, api.ErrRange},
		{math.MinInt, 0, api.ErrRange},
	}
	for _, x := range tests {
		if n, e := Most(x.n); n != x.want || e != x.e {
			t.Errorf("Most(%d): %d, %d, want %d, %d", x.n, n, e, x.want, x.e)
		}
	}
}

// TestMostIsMost: Put makes so many of some row, and of none more.
func TestMostIsMost(t *testing.T) {
	for size := range 15 {
		longest := 0
		for _, b := range allRows(size) {
			made, _ := Put(b)
			longest = max(longest, len(made))
		}
		if n, e := Most(size); n != longest || e != api.OK {
			t.Errorf("Most(%d): %d, %d, but Put makes %d", size, n, e, longest)
		}
	}
	for size := range api.MaxBits + 1 {
		made, _ := Put(worst(size))
		if n, e := Most(size); n != len(made) || e != api.OK {
			t.Errorf("Most(%d): %d, %d, but Put makes %d", size, n, e, len(made))
		}
	}
}

func TestFixed(t *testing.T) {
	tests := []struct {
		b     string
		ahead byte
		want  string
		e     api.Errno
	}{
		{"", '0', "", api.OK},
		{"", '1', "", api.OK},
		{"0", '0', "10", api.OK},
		{"0", '1', "00", api.OK},
		{"1", '0', "11", api.OK},
		{"1", '1', "01", api.OK},
		{"0000", '1', "00000", api.OK},
		{"00000", '1', "0000010", api.OK},
		{"11110", '1', "0111100", api.OK},
		{"11101", '0', "1111011", api.OK}, // by the bit ahead, not by the one behind
		{"111100", '0', "11111000", api.OK},
		{"111100001111", '1', "011110000011111", api.OK},
		{rows("0", api.MaxBits), '0', rows("10000", 250), api.OK},
		{rows("1", api.MaxBits), '1', rows("01111", 250), api.OK},
		{"", 'x', "", api.ErrRange},
		{"", 0, "", api.ErrRange},
		{"1", 'x', "", api.ErrRange},
		{"1", 0, "", api.ErrRange},
		{"1", 1, "", api.ErrRange}, // the number, not the byte that is written so
		{"1", '/', "", api.ErrRange},
		{"1", '2', "", api.ErrRange},
		{"1", 255, "", api.ErrRange},
	}
	for _, x := range tests {
		if b, e := Fixed(x.b, x.ahead); b != x.want || e != x.e {
			t.Errorf("Fixed(%q, %q): %q, %d, want %q, %d", x.b, x.ahead, b, e, x.want, x.e)
		}
	}
}

func TestFixedEveryAhead(t *testing.T) {
	for c := range 256 {
		want := api.ErrRange
		if c == '0' || c == '1' {
			want = api.OK
		}
		if b, e := Fixed("01", byte(c)); e != want || (b == "") != (e != api.OK) {
			t.Errorf("Fixed(\"01\", %d): %q, %d, want %d", c, b, e, want)
		}
	}
}

// TestFixedPlaces: each fifth bit is other than the one ahead of it, and without them the row is there.
func TestFixedPlaces(t *testing.T) {
	for size := range 14 {
		for _, b := range allRows(size) {
			for _, ahead := range "01" {
				made, e := Fixed(b, byte(ahead))
				if e != api.OK {
					t.Fatalf("Fixed(%q, %q): %d", b, ahead, e)
				}
				with := string(ahead) + made
				rest := ""
				for i := range len(made) {
					if i%5 != 0 {
						rest += made[i : i+1]
					} else if with[i] == with[i+1] || i == len(made)-1 {
						t.Fatalf("Fixed(%q, %q): %q, at %d", b, ahead, made, i)
					}
				}
				if rest != b {
					t.Fatalf("Fixed(%q, %q): %q", b, ahead, made)
				}
			}
		}
	}
}

// TestWrongRows: whoever takes a row answers Check's error, ahead of all others, and zero beside it.
func TestWrongRows(t *testing.T) {
	for _, w := range wrongRows {
		if b, e := Put(w.b); b != "" || e != w.e {
			t.Errorf("Put(%q): %q, %d, want none, %d", w.b, b, e, w.e)
		}
		for _, n := range []int{0, 1, 3, api.MaxBits, -1, api.MaxBits + 1} {
			if b, used, e := Take(w.b, n); b != "" || used != 0 || e != w.e {
				t.Errorf("Take(%q, %d): %q, %d, %d, want none, 0, %d", w.b, n, b, used, e, w.e)
			}
		}
		for _, ahead := range []byte("01x") {
			if b, e := Fixed(w.b, ahead); b != "" || e != w.e {
				t.Errorf("Fixed(%q, %q): %q, %d, want none, %d", w.b, ahead, b, e, w.e)
			}
		}
	}
}
