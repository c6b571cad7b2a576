package frame

import (
	"fmt"
	"math"
	"strings"
	"testing"

	"omnibus/api"
)

func rows(b string, n int) string { return strings.Repeat(b, n) }

// mixed is n bytes without a plain order; other seeds, other bytes.
func mixed(n, seed int) []byte {
	l := make([]byte, n)
	x := uint32(seed)*2654435761 + 12345
	for i := range l {
		x = x*1664525 + 1013904223
		l[i] = byte(x >> 24)
	}
	return l
}

// filled is n bytes that are alike.
func filled(n int, x byte) []byte {
	l := make([]byte, n)
	for i := range l {
		l[i] = x
	}
	return l
}

// fastSizes are how many bytes a Fast frame may have, as the document has them.
var fastSizes = []int{0, 1, 2, 3, 4, 5, 6, 7, 8, 12, 16, 20, 24, 32, 48, 64}

// someFrames are frames of all kinds, with many IDs and all sizes.
func someFrames() []api.Frame {
	var l []api.Frame
	for _, long := range []bool{false, true} {
		ids := []int{0, 1, 5, 31, 32, 64, 1023, 1024, 1365, 1984, 2016, api.MaxID}
		if long {
			ids = append(ids, api.MaxID+1, 1<<18-1, 1<<18, 1<<18+1, 0x0AAAAAAA, 0x15555555, 1<<28, api.MaxLong-1, api.MaxLong)
		}
		for _, id := range ids {
			for n := range 9 {
				l = append(l, api.Frame{ID: id, Long: long, Remote: true, Size: n})
				l = append(l, api.Frame{ID: id, Long: long, Data: mixed(n, id+n)})
			}
			for _, n := range fastSizes {
				l = append(l, api.Frame{ID: id, Long: long, Fast: true, Data: mixed(n, id-n)})
			}
		}
		for _, x := range []byte{0, 0xFF, 0x1F, 0xF0, 0x07, 0xF8, 0x83, 0x7C, 0x3E} {
			for _, n := range fastSizes {
				l = append(l, api.Frame{ID: 3, Long: long, Fast: true, Data: filled(n, x)})
				if n <= 8 {
					l = append(l, api.Frame{ID: 3, Long: long, Data: filled(n, x)})
				}
			}
		}
	}
	return l
}

// wrongFrames are frames that can't be, and what Check says of them.
var wrongFrames = []struct {
	f api.Frame
	e api.Errno
}{
	{api.Frame{ID: -1}, api.ErrRange},
	{api.Frame{ID: math.MinInt}, api.ErrRange},
	{api.Frame{ID: api.MaxID + 1}, api.ErrRange},
	{api.Frame{ID: api.MaxLong}, api.ErrRange},
	{api.Frame{ID: math.MaxInt}, api.ErrRange},
	{api.Frame{ID: api.MaxID + 1, Fast: true}, api.ErrRange},
	{api.Frame{ID: api.MaxID + 1, Remote: true}, api.ErrRange},
	{api.Frame{ID: -1, Long: true}, api.ErrRange},
	{api.Frame{ID: api.MaxLong + 1, Long: true}, api.ErrRange},
	{api.Frame{ID: api.MaxLong + 1, Long: true, Fast: true}, api.ErrRange},
	{api.Frame{ID: math.MaxInt, Long: true}, api.ErrRange},

	{api.Frame{Remote: true, Fast: true}, api.ErrForm},
	{api.Frame{Remote: true, Data: []byte{0}}, api.ErrForm},
	{api.Frame{Remote: true, Size: 1, Data: []byte{0}}, api.ErrForm},
	{api.Frame{Remote: true, Fast: true, Data: []byte{0}}, api.ErrForm},
	{api.Frame{Remote: true, Long: true, Data: filled(8, 1)}, api.ErrForm},

	{api.Frame{Remote: true, Size: -1}, api.ErrRange},
	{api.Frame{Remote: true, Size: 9}, api.ErrRange},
	{api.Frame{Remote: true, Size: 12}, api.ErrRange},
	{api.Frame{Remote: true, Size: math.MinInt}, api.ErrRange},
	{api.Frame{Remote: true, Size: math.MaxInt}, api.ErrRange},
	{api.Frame{Size: -1}, api.ErrRange},
	{api.Frame{Size: 1}, api.ErrRange},
	{api.Frame{Size: 8}, api.ErrRange},
	{api.Frame{Size: 9}, api.ErrRange},
	{api.Frame{Size: 1, Data: []byte{0}}, api.ErrRange},
	{api.Frame{Size: 8, Long: true, Fast: true, Data: filled(8, 0)}, api.ErrRange},

	{api.Frame{Data: filled(9, 0)}, api.ErrMany},
	{api.Frame{Data: filled(12, 0)}, api.ErrMany},
	{api.Frame{Data: filled(64, 0)}, api.ErrMany},
	{api.Frame{Data: filled(65, 0)}, api.ErrMany},
	{api.Frame{Long: true, Data: filled(9, 0)}, api.ErrMany},
	{api.Frame{Fast: true, Data: filled(65, 0)}, api.ErrMany},
	{api.Frame{Fast: true, Data: filled(1000, 0)}, api.ErrMany},
	{api.Frame{Fast: true, Long: true, Data: filled(65, 0)}, api.ErrMany},

	{api.Frame{Fast: true, Data: filled(9, 0)}, api.ErrForm},
	{api.Frame{Fast: true, Data: filled(63, 0)}, api.ErrForm},
	{api.Frame{Fast: true, Long: true, Data: filled(13, 0)}, api.ErrForm},

	// Several apply: the one that is told first.
	{api.Frame{ID: -1, Remote: true, Fast: true}, api.ErrRange},
	{api.Frame{ID: -1, Data: filled(9, 0)}, api.ErrRange},
	{api.Frame{ID: -1, Fast: true, Data: filled(9, 0)}, api.ErrRange},
	{api.Frame{Remote: true, Fast: true, Size: 9}, api.ErrForm},
	{api.Frame{Remote: true, Size: -1, Data: filled(1, 0)}, api.ErrForm},
	{api.Frame{Remote: true, Data: filled(9, 0)}, api.ErrForm},
	{api.Frame{Remote: true, Fast: true, Data: filled(65, 0)}, api.ErrForm},
	{api.Frame{Size: 1, Data: filled(9, 0)}, api.ErrRange},
	{api.Frame{Size: -1, Fast: true, Data: filled(9, 0)}, api.ErrRange},
	{api.Frame{Size: -1, Fast: true, Data: filled(65, 0)}, api.ErrRange},
}

func TestCheck(t *testing.T) {
	for _, f := range someFrames() {
		if e := Check(f); e != api.OK {
			t.Errorf("Check(%+v): %d", f, e)
		}
	}
	for _, w := range wrongFrames {
		if e := Check(w.f); e != w.e {
			t.Errorf("Check(%+v): %d, want %d", w.f, e, w.e)
		}
	}
}

// TestCheckSizes: each number of bytes, of a Fast frame and of another.
func TestCheckSizes(t *testing.T) {
	fits := map[int]bool{}
	for _, n := range fastSizes {
		fits[n] = true
	}
	for n := range 200 {
		fast, plain := api.ErrForm, api.ErrMany
		if n > 64 {
			fast = api.ErrMany
		}
		if fits[n] {
			fast = api.OK
		}
		if n <= 8 {
			plain = api.OK
		}
		for _, long := range []bool{false, true} {
			if e := Check(api.Frame{Long: long, Fast: true, Data: make([]byte, n)}); e != fast {
				t.Errorf("Check(Fast, %d bytes): %d, want %d", n, e, fast)
			}
			if e := Check(api.Frame{Long: long, Data: make([]byte, n)}); e != plain {
				t.Errorf("Check(%d bytes): %d, want %d", n, e, plain)
			}
		}
	}
}

// TestCheckNone: no list and an empty one are alike.
func TestCheckNone(t *testing.T) {
	for _, f := range []api.Frame{{}, {Fast: true}, {Remote: true, Size: 8}} {
		g := f
		g.Data = []byte{}
		a, ea := Bits(f)
		b, eb := Bits(g)
		if Check(f) != api.OK || Check(g) != api.OK || a != b || ea != eb || !Same(f, g) || !Same(g, f) {
			t.Errorf("%+v and %+v aren't alike", f, g)
		}
	}
}

func TestSame(t *testing.T) {
	base := api.Frame{ID: 5, Size: 3, Data: []byte{1, 2, 3}}
	others := []api.Frame{
		{ID: 6, Size: 3, Data: []byte{1, 2, 3}},
		{ID: 5, Size: 4, Data: []byte{1, 2, 3}},
		{ID: 5, Size: 3, Long: true, Data: []byte{1, 2, 3}},
		{ID: 5, Size: 3, Fast: true, Data: []byte{1, 2, 3}},
		{ID: 5, Size: 3, Remote: true, Data: []byte{1, 2, 3}},
		{ID: 5, Size: 3, Data: []byte{1, 2, 4}},
		{ID: 5, Size: 3, Data: []byte{0, 2, 3}},
		{ID: 5, Size: 3, Data: []byte{1, 2}},
		{ID: 5, Size: 3, Data: []byte{1, 2, 3, 0}},
		{ID: 5, Size: 3},
		{},
	}
	if !Same(base, api.Frame{ID: 5, Size: 3, Data: append(make([]byte, 0, 10), 1, 2, 3)}) {
		t.Errorf("%+v isn't the same as itself", base)
	}
	for i, o := range others {
		if Same(base, o) || Same(o, base) {
			t.Errorf("%+v is the same as %+v", base, o)
		}
		for j, p := range others {
			if Same(o, p) != (i == j) {
				t.Errorf("Same(%+v, %+v): %t", o, p, Same(o, p))
			}
		}
	}
	for _, w := range wrongFrames {
		g := w.f
		g.Data = append([]byte{}, w.f.Data...)
		if !Same(w.f, g) {
			t.Errorf("%+v isn't the same as itself", w.f)
		}
	}
}

func TestName(t *testing.T) {
	tests := []struct {
		f    api.Frame
		want string
	}{
		{api.Frame{}, "0000000000000"},
		{api.Frame{ID: 5}, "0000000010100"},
		{api.Frame{ID: 5, Remote: true}, "0000000010110"},
		{api.Frame{ID: 5, Remote: true, Size: 8}, "0000000010110"},
		{api.Frame{ID: 5, Fast: true, Data: filled(64, 7)}, "0000000010100"},
		{api.Frame{ID: api.MaxID, Data: filled(8, 7)}, "1111111111100"},
		{api.Frame{ID: api.MaxID, Remote: true}, "1111111111110"},
		{api.Frame{ID: 1024}, "1000000000000"},
		{api.Frame{Long: true}, rows("0", 11) + "11" + rows("0", 19)},
		{api.Frame{Long: true, Remote: true}, rows("0", 11) + "11" + rows("0", 18) + "1"},
		{api.Frame{ID: api.MaxID, Long: true}, rows("0", 11) + "11" + "000000011111111111" + "0"},
		{api.Frame{ID: 1<<18 - 1, Long: true}, rows("0", 11) + "11" + rows("1", 18) + "0"},
		{api.Frame{ID: 1 << 18, Long: true}, "00000000001" + "11" + rows("0", 19)},
		{api.Frame{ID: 1<<18 + 1, Long: true, Fast: true}, "00000000001" + "11" + rows("0", 17) + "10"},
		{api.Frame{ID: api.MaxLong, Long: true}, rows("1", 31) + "0"},
		{api.Frame{ID: api.MaxLong, Long: true, Remote: true}, rows("1", 32)},
	}
	for _, x := range tests {
		if b, e := Name(x.f); b != x.want || e != api.OK {
			t.Errorf("Name(%+v): %q, %d, want %q", x.f, b, e, x.want)
		}
	}
}

// TestWrongFrames: whoever takes a frame answers Check's error, and zero beside it.
func TestWrongFrames(t *testing.T) {
	for _, w := range wrongFrames {
		if b, e := Name(w.f); b != "" || e != w.e {
			t.Errorf("Name(%+v): %q, %d, want none, %d", w.f, b, e, w.e)
		}
		if b, e := Bits(w.f); b != "" || e != w.e {
			t.Errorf("Bits(%+v): %q, %d, want none, %d", w.f, b, e, w.e)
		}
	}
}

// nameTold is Name by another way.
func nameTold(f api.Frame) string {
	remote := "0"
	if f.Remote {
		remote = "1"
	}
	if f.Long {
		id := fmt.Sprintf("%029b", f.ID)
		return id[:11] + "11" + id[11:] + remote
	}
	return fmt.Sprintf("%011b", f.ID) + remote + "0"
}

// headTold is the head by another way.
func headTold(f api.Frame) string {
	form := "0"
	if f.Long {
		form = "00"
	}
	if f.Fast {
		form = "1010"
	}
	n := len(f.Data) + f.Size // one of them is 0
	if code, ok := map[int]int{12: 9, 16: 10, 20: 11, 24: 12, 32: 13, 48: 14, 64: 15}[n]; ok {
		n = code
	}
	b := "0" + nameTold(f) + form + fmt.Sprintf("%04b", n)
	for _, x := range f.Data {
		b += fmt.Sprintf("%08b", x)
	}
	return b
}

// putTold is chapter 2's Put by another way: it looks at how the row ends so far.
func putTold(b string) string {
	out := ""
	for _, r := range b {
		out += string(r)
		if strings.HasSuffix(out, "00000") {
			out += "1"
		} else if strings.HasSuffix(out, "11111") {
			out += "0"
		}
	}
	return out
}

// sumTold is chapter 3's sum of a kind by another way: from the polynomial as
// a whole, with its highest bit, which takes away what goes out.
func sumTold(kind int, b string) string {
	size := []int{15, 17, 21}[kind]
	poly := []int{0xC599, 0x3685B, 0x302899}[kind]
	n := []int{0, 0x10000, 0x100000}[kind]
	for _, r := range b {
		n = n<<1 ^ int(r-'0')<<size
		if n>>size == 1 {
			n ^= poly
		}
	}
	return fmt.Sprintf("%0*b", size, n)
}

// counts are the counts of 0 to 7 bits that were put in.
var counts = []string{"0000", "0011", "0110", "0101", "1100", "1111", "1010", "1001"}

// fixedTold is chapter 2's Fixed by another way: from parts of four bits.
func fixedTold(b string, ahead byte) string {
	out := string(ahead)
	for b != "" {
		n := min(4, len(b))
		last := out[len(out)-1]
		out += map[byte]string{'0': "1", '1': "0"}[last] + b[:n]
		b = b[n:]
	}
	return out[1:]
}

// kindTold is the kind of a Fast frame's sum.
func kindTold(n int) int {
	if n > 16 {
		return 2
	}
	return 1
}

// bitsTold is Bits by another way.
func bitsTold(f api.Frame) string {
	h := headTold(f)
	if !f.Fast {
		return putTold(h+sumTold(0, h)) + rows("1", 10)
	}
	b := putTold(h)
	count := counts[(len(b)-len(h))%8]
	return b + fixedTold(count+sumTold(kindTold(len(f.Data)), b+count), b[len(b)-1]) + rows("1", 10)
}

func TestNameTold(t *testing.T) {
	for _, f := range someFrames() {
		if b, e := Name(f); b != nameTold(f) || e != api.OK {
			t.Errorf("Name(%+v): %q, %d, want %q", f, b, e, nameTold(f))
		}
	}
}

// TestBits: rows that were worked out by hand, but for the sums.
func TestBits(t *testing.T) {
	tests := []struct {
		f    api.Frame
		want string
	}{
		// All of it is 0, the sum too.
		{api.Frame{}, rows("000001", 6) + "0000" + rows("1", 10)},
		{api.Frame{ID: 1, Remote: true, Size: 8},
			putTold("0"+"00000000001"+"1"+"0"+"0"+"1000"+sumTold(0, "0000000000011001000")) + rows("1", 10)},
		{api.Frame{ID: api.MaxLong, Long: true, Data: []byte{0xFF}},
			putTold("0"+rows("1", 31)+"000"+"0001"+"11111111"+sumTold(0, "0"+rows("1", 31)+"000000111111111")) + rows("1", 10)},
		// `0` of `1010` and four more 0: one is put in behind the head, the third one there.
		{api.Frame{ID: 3, Fast: true},
			"000001" + "000001" + "11" + "00" + "1010" + "0000" + "1" +
				fixedTold("0101"+sumTold(1, "000001"+"000001"+"11"+"00"+"1010"+"0000"+"1"+"0101"), '1') + rows("1", 10)},
		// None is put in.
		{api.Frame{ID: 0x555, Fast: true, Data: []byte{0xAA}},
			"0" + "10101010101" + "00" + "1010" + "0001" + "10101010" +
				fixedTold("0000"+sumTold(1, "0101010101010010100001101010100000"), '0') + rows("1", 10)},
	}
	for _, x := range tests {
		if b, e := Bits(x.f); b != x.want || e != api.OK {
			t.Errorf("Bits(%+v): %q, %d, want %q", x.f, b, e, x.want)
		}
	}
}

func TestBitsTold(t *testing.T) {
	for _, f := range someFrames() {
		if b, e := Bits(f); b != bitsTold(f) || e != api.OK {
			t.Errorf("Bits(%+v): %q, %d, want %q", f, b, e, bitsTold(f))
		}
	}
}

// TestBitsLengths: sixteen bytes have the smaller sum, twenty the larger one.
func TestBitsLengths(t *testing.T) {
	for _, n := range fastSizes {
		f := api.Frame{ID: 0x555, Fast: true, Data: filled(n, 0x55)}
		h := headTold(f)
		want := len(putTold(h)) + 27 + 10
		if n > 16 {
			want = len(putTold(h)) + 32 + 10
		}
		if b, _ := Bits(f); len(b) != want {
			t.Errorf("Bits of %d bytes: %d bits, want %d", n, len(b), want)
		}
	}
}

// TestCounts: all eight counts are met, and stand where they must.
func TestCounts(t *testing.T) {
	met := map[string]bool{}
	for _, f := range someFrames() {
		if !f.Fast {
			continue
		}
		h := headTold(f)
		n := len(putTold(h))
		b, _ := Bits(f)
		count := b[n+1 : n+5] // behind the first bit that is Fixed
		if count != counts[(n-len(h))%8] {
			t.Errorf("Bits(%+v): the count %q of %d bits", f, count, n-len(h))
		}
		met[count] = true
	}
	if len(met) != 8 {
		t.Errorf("only these counts were met: %v", met)
	}
}

func TestLongest(t *testing.T) {
	tests := []struct {
		long, fast bool
		n, want    int
		e          api.Errno
	}{
		{false, false, 0, 34 + 8 + 10, api.OK},
		{false, false, 1, 42 + 10 + 10, api.OK},
		{false, false, 8, 98 + 24 + 10, api.OK},
		{true, false, 0, 54 + 13 + 10, api.OK},
		{true, false, 8, 118 + 29 + 10, api.OK},
		{false, true, 0, 22 + 5 + 27 + 10, api.OK},
		{false, true, 8, 86 + 21 + 27 + 10, api.OK},
		{false, true, 12, 118 + 29 + 27 + 10, api.OK},
		{false, true, 16, 150 + 37 + 27 + 10, api.OK},
		{false, true, 20, 182 + 45 + 32 + 10, api.OK},
		{false, true, 64, 534 + 133 + 32 + 10, api.OK},
		{true, true, 0, 41 + 10 + 27 + 10, api.OK},
		{true, true, 16, 169 + 42 + 27 + 10, api.OK},
		{true, true, 20, 201 + 50 + 32 + 10, api.OK},
		{true, true, api.MaxBytes, 553 + 138 + 32 + 10, api.OK},
		{false, false, 9, 0, api.ErrMany},
		{true, false, 64, 0, api.ErrMany},
		{false, true, 9, 0, api.ErrForm},
		{true, true, 63, 0, api.ErrForm},
		{false, true, api.MaxBytes + 1, 0, api.ErrMany},
		{false, false, api.MaxBytes + 1, 0, api.ErrMany},
		{true, true, -1, 0, api.ErrMany},
		{false, false, -1, 0, api.ErrMany},
		{true, true, math.MaxInt, 0, api.ErrMany},
		{true, true, math.MinInt, 0, api.ErrMany},
	}
	for _, x := range tests {
		if n, e := Longest(x.long, x.fast, x.n); n != x.want || e != x.e {
			t.Errorf("Longest(%t, %t, %d): %d, %d, want %d, %d", x.long, x.fast, x.n, n, e, x.want, x.e)
		}
	}
}

// TestLongestHolds: no frame is longer, be it a Remote one.
func TestLongestHolds(t *testing.T) {
	for _, f := range someFrames() {
		b, _ := Bits(f)
		n, e := Longest(f.Long, f.Fast, len(f.Data))
		if len(b) > n || e != api.OK {
			t.Errorf("Bits(%+v): %d bits, Longest says %d, %d", f, len(b), n, e)
		}
	}
}

// TestLongestIsNear: 64 bytes of which each bit that is put in is the first of
// the next five; the first five begin with 1111, by which such a head says 64.
func TestLongestIsNear(t *testing.T) {
	f := api.Frame{ID: 0x2AA, Fast: true, Data: filled(64, 0x87)}
	none := api.Frame{ID: 0x2AA, Fast: true, Data: filled(64, 0x55)}
	b, _ := Bits(f)
	least, _ := Bits(none)
	if len(b)-len(least) != 128 {
		t.Errorf("%d bits were put into 64 bytes, want 128", len(b)-len(least))
	}
	// Five more would be put in, were the bits ahead of Data so, too.
	if n, _ := Longest(false, true, 64); len(b) != n-5 {
		t.Errorf("%d bits, Longest says %d", len(b), n)
	}
}

// TestOnlyRead: neither Data nor the room behind it is changed.
func TestOnlyRead(t *testing.T) {
	for _, n := range []int{0, 1, 8, 9, 12, 64, 65} {
		for _, fast := range []bool{false, true} {
			room := mixed(n+20, n)
			was := string(room)
			f := api.Frame{ID: 7, Fast: fast, Data: room[:n]}
			Check(f)
			Same(f, f)
			Name(f)
			Bits(f)
			if string(room) != was {
				t.Errorf("%d bytes, Fast %t: Data was changed", n, fast)
			}
		}
	}
}
