package frame

import (
	"strconv"
	"strings"
	"testing"

	"omnibus/api"
)

// whatFollows are rows that may stand behind a frame.
var whatFollows = []string{"", "0", "1", "101", rows("0", 12), rows("1", 30)}

// turned is b with the bits at these places turned.
func turned(b string, at ...int) string {
	row := []byte(b)
	for _, i := range at {
		row[i] ^= 1 // the bytes 0 and 1 differ by their lowest bit alone
	}
	return string(row)
}

// fewFrames are one or two of each kind, for tests that go over each of their bits.
func fewFrames() []api.Frame {
	return []api.Frame{
		{},
		{ID: api.MaxID, Data: mixed(8, 1)},
		{ID: 0x123, Data: []byte{0, 0xFF}},
		{ID: 9, Remote: true, Size: 8},
		{ID: 31, Remote: true},
		{Long: true},
		{ID: api.MaxLong, Long: true, Data: []byte{0xFF}},
		{ID: 0x0F0F0F0F, Long: true, Data: mixed(8, 2)},
		{ID: api.MaxLong, Long: true, Remote: true, Size: 7},
		{ID: 3, Fast: true},
		{ID: 0x555, Fast: true, Data: []byte{0xAA}},
		{ID: 0x7C0, Fast: true, Data: filled(12, 0)},
		{ID: 1, Fast: true, Data: mixed(16, 3)},
		{ID: 1, Fast: true, Data: mixed(20, 4)},
		{ID: api.MaxLong, Long: true, Fast: true, Data: filled(16, 0xFF)},
		{ID: 0x15555555, Long: true, Fast: true, Data: mixed(20, 5)},
		{ID: 3, Long: true, Fast: true, Data: filled(64, 0)},
	}
}

// formTold is what is told of a head's last bit, by where it stands.
func formTold(h string) bool {
	n := len(h)
	if n < 14 {
		return n == 1 && h[0] == '1'
	}
	if h[13] == '0' {
		if n < 15 || h[14] == '0' {
			return n == 19 && h[15:19] > "1000"
		}
		return n == 15 && h[12] == '1' || n == 16 && h[15] == '1' || n == 17 && h[16] == '0' || n == 18 && h[17] == '1'
	}
	if n < 34 {
		return n == 14 && h[12] == '0'
	}
	if h[33] == '0' {
		return n == 35 && h[34] == '1' || n == 39 && h[35:39] > "1000"
	}
	return n == 34 && h[32] == '1' || n == 35 && h[34] == '1' || n == 36 && h[35] == '0' || n == 37 && h[36] == '1'
}

// bareTold reads one bit of the head, from at on, and the one that was put in
// behind it: the place behind them, and what is wrong.
func bareTold(b string, at int) (int, api.Errno) {
	if at == len(b) {
		return at, api.ErrShort
	}
	at++
	if five := b[max(0, at-5):at]; five != "00000" && five != "11111" {
		return at, api.OK
	}
	if at == len(b) {
		return at, api.ErrShort
	}
	if b[at] == b[at-1] {
		return at, api.ErrStuff
	}
	return at + 1, api.OK
}

// frameTold is the frame of a head, once the head says how long it is; else -1.
func frameTold(h string) (api.Frame, int) {
	for _, code := range []struct {
		at         int
		long, fast bool
	}{{15, false, false}, {18, false, true}, {35, true, false}, {37, true, true}} {
		if len(h) < code.at+4 || (h[13] == '1') != code.long {
			continue
		}
		if mark := map[bool]int{false: 14, true: 33}[code.long]; (h[mark] == '1') != code.fast {
			continue
		}
		id, remote := h[1:12], h[12]
		if code.long {
			id, remote = h[1:12]+h[14:32], h[32]
		}
		n, _ := strconv.ParseInt(id, 2, 64)
		c, _ := strconv.ParseInt(h[code.at:code.at+4], 2, 64)
		f := api.Frame{ID: int(n), Long: code.long, Fast: code.fast, Remote: remote == '1'}
		if f.Remote {
			f.Size = int(c)
			return f, code.at + 4
		}
		for i := range fastSizes[c] {
			from := code.at + 4 + 8*i
			if len(h) < from+8 {
				break
			}
			x, _ := strconv.ParseUint(h[from:from+8], 2, 8)
			f.Data = append(f.Data, byte(x))
		}
		return f, code.at + 4 + 8*fastSizes[c]
	}
	return api.Frame{}, -1
}

// readTold is Read by another way: bit by bit, and what is told of each by its place.
func readTold(b string) (api.Frame, int, api.Errno) {
	h, at := "", 0
	for {
		f, size := frameTold(h)
		if size == len(h) {
			return sumReadTold(b, at, h, f)
		}
		next, e := bareTold(b, at)
		if e != api.OK {
			return api.Frame{}, 0, e
		}
		h, at = h+b[at:at+1], next
		if formTold(h) {
			return api.Frame{}, 0, api.ErrForm
		}
	}
}

// sumReadTold reads what is behind the head.
func sumReadTold(b string, at int, h string, f api.Frame) (api.Frame, int, api.Errno) {
	if f.Fast {
		return fixedReadTold(b, at, h, f)
	}
	sum := ""
	for range 15 {
		next, e := bareTold(b, at)
		if e != api.OK {
			return api.Frame{}, 0, e
		}
		sum, at = sum+b[at:at+1], next
	}
	if sum != sumTold(0, h) {
		return api.Frame{}, 0, api.ErrCheck
	}
	return endTold(b, at, f)
}

func fixedReadTold(b string, at int, h string, f api.Frame) (api.Frame, int, api.Errno) {
	size := 27
	if len(f.Data) > 16 {
		size = 32
	}
	if len(b) < at+size {
		return api.Frame{}, 0, api.ErrShort
	}
	got := ""
	for i := at; i < at+size; i++ {
		if (i-at)%5 != 0 {
			got += b[i : i+1]
		} else if b[i] == b[i-1] {
			return api.Frame{}, 0, api.ErrStuff
		}
	}
	count := counts[(at-len(h))%8]
	if got != count+sumTold(kindTold(len(f.Data)), b[:at]+count) {
		return api.Frame{}, 0, api.ErrCheck
	}
	return endTold(b, at+size, f)
}

func endTold(b string, at int, f api.Frame) (api.Frame, int, api.Errno) {
	if len(b) < at+10 {
		return api.Frame{}, 0, api.ErrShort
	}
	if b[at] != '1' || b[at+2:at+10] != "11111111" {
		return api.Frame{}, 0, api.ErrForm
	}
	return f, at + 10, api.OK
}

// sameRead holds Read against readTold.
func sameRead(t *testing.T, b string) {
	t.Helper()
	f, n, e := Read(b)
	g, m, want := readTold(b)
	if !Same(f, g) || n != m || e != want {
		t.Errorf("Read(%q): %+v, %d, %d, want %+v, %d, %d", b, f, n, e, g, m, want)
	}
}

// fails: with an error all else is zero.
func fails(t *testing.T, what, b string, want api.Errno) {
	t.Helper()
	f, n, e := Read(b)
	if !Same(f, api.Frame{}) || n != 0 || e != want {
		t.Errorf("%s: Read(%q): %+v, %d, %d, want none, %d", what, b, f, n, e, want)
	}
}

func TestReadBack(t *testing.T) {
	for _, f := range someFrames() {
		b, _ := Bits(f)
		for _, more := range append(whatFollows, rows("10", 500)[:api.MaxBits-len(b)]) {
			g, n, e := Read(b + more)
			if !Same(f, g) || n != len(b) || e != api.OK {
				t.Errorf("Read(Bits(%+v) + %q): %+v, %d, %d", f, more, g, n, e)
			}
		}
	}
}

// TestReadHeard: others turned the second of the last ten bits; another one they may not turn.
func TestReadHeard(t *testing.T) {
	for _, f := range fewFrames() {
		b, _ := Bits(f)
		end := len(b) - 10
		for _, more := range whatFollows {
			g, n, e := Read(turned(b, end+1) + more)
			if !Same(f, g) || n != len(b) || e != api.OK {
				t.Errorf("Read(%+v, heard): %+v, %d, %d", f, g, n, e)
			}
			for i := range 10 {
				if i == 1 {
					continue
				}
				fails(t, "one of the last ten", turned(b, end+i)+more, api.ErrForm)
				fails(t, "one of the last ten, heard", turned(b, end+1, end+i)+more, api.ErrForm)
			}
		}
	}
}

// TestReadShort: a row that ends at any of its places is too short, whatever the place.
func TestReadShort(t *testing.T) {
	for _, f := range fewFrames() {
		b, _ := Bits(f)
		for n := range len(b) {
			fails(t, "short", b[:n], api.ErrShort)
		}
		// The last ten are told of when all are read.
		for n := len(b) - 9; n < len(b); n++ {
			fails(t, "short, and one of the last ten", turned(b[:n], n-1), api.ErrShort)
		}
	}
}

// TestReadTurned: a bit that was turned is never taken, but for the one that others may turn.
func TestReadTurned(t *testing.T) {
	for _, f := range fewFrames() {
		b, _ := Bits(f)
		for i := range len(b) {
			bad := turned(b, i)
			sameRead(t, bad)
			if _, _, e := Read(bad); (e == api.OK) != (i == len(b)-9) {
				t.Errorf("Read(%+v), bit %d of %d turned: %d", f, i, len(b), e)
			}
		}
	}
}

// TestReadTurnedAndCut: the end is told of when it comes ahead of a fault, else the fault is.
func TestReadTurnedAndCut(t *testing.T) {
	for _, f := range fewFrames()[:12] {
		b, _ := Bits(f)
		for i := range len(b) {
			bad := turned(b, i)
			for n := range len(b) {
				sameRead(t, bad[:n])
			}
		}
	}
}

// TestReadTwoTurned: two faults in one row.
func TestReadTwoTurned(t *testing.T) {
	for _, f := range fewFrames()[:12] {
		b, _ := Bits(f)
		for i := range len(b) {
			for j := range i {
				sameRead(t, turned(b, i, j))
			}
		}
	}
}

// TestReadAny: rows that are no frames, made without a plain order, but so
// that six alike are rare.
func TestReadAny(t *testing.T) {
	for seed := range 20000 {
		l := mixed(60, seed)
		b := ""
		for _, x := range l[1 : 1+int(l[0])%50] {
			b += []string{"01", "10", "0", "1", "001", "110", "0011", "1100"}[x%8]
		}
		sameRead(t, b)
		sameRead(t, "0"+b)
		sameRead(t, putTold("0"+b))
		sameRead(t, putTold("0"+b)+bitsTold(api.Frame{ID: seed % 2048}))
	}
}

// TestReadSettled: what was told of a row other than that it is too short is
// told of each longer one.
func TestReadSettled(t *testing.T) {
	for _, f := range fewFrames()[:12] {
		b, _ := Bits(f)
		for i := range len(b) {
			bad := turned(b, i)
			for n := range len(b) {
				_, _, e := Read(bad[:n])
				if e == api.ErrShort {
					continue
				}
				for _, more := range whatFollows {
					if _, _, again := Read(bad[:n] + more); again != e {
						t.Errorf("Read(%q): %d, with %q behind it %d", bad[:n], e, more, again)
					}
				}
			}
		}
	}
}

// TestReadForm: each bit that must be so; what is told of it is told when it is read.
func TestReadForm(t *testing.T) {
	long := "0" + "01010101010" + "11" + rows("10", 9)
	short := "0" + "01010101010"
	tests := []struct {
		what, b string
	}{
		{"the first bit", "1"},
		{"the first of a Long one's bits ahead of the 18", short + "01"},
		{"a Long one that isn't Fast: the second of 00", long + "0" + "01"},
		{"a Long Remote one: the second of 00", long + "1" + "01"},
		{"a Fast one that is Remote", short + "10" + "1"},
		{"a Long Fast one that is Remote", long + "1" + "1"},
		{"Fast: the second of 1010", short + "00" + "11"},
		{"Fast: the third of 1010", short + "00" + "100"},
		{"Fast: the fourth of 1010", short + "00" + "1011"},
		{"Long and Fast: the second of 1010", long + "0" + "11"},
		{"Long and Fast: the third of 1010", long + "0" + "100"},
		{"Long and Fast: the fourth of 1010", long + "0" + "1011"},
		{"9 bytes", short + "00" + "0" + "1001"},
		{"10 bytes", short + "00" + "0" + "1010"},
		{"12 bytes", short + "00" + "0" + "1100"},
		{"15 bytes", short + "00" + "0" + "1111"},
		{"9 bytes, Remote", short + "10" + "0" + "1001"},
		{"9 bytes, Long", long + "0" + "00" + "1001"},
		{"15 bytes, Long and Remote", long + "1" + "00" + "1111"},
	}
	for _, x := range tests {
		for _, more := range whatFollows {
			fails(t, x.what, x.b+more, api.ErrForm)
		}
		fails(t, x.what+", a bit ahead", x.b[:len(x.b)-1], api.ErrShort)
	}
}

// TestReadTwoFaults: the first from the left on is told, ErrShort ahead of
// ErrStuff, and both ahead of what is told of the bit they stand behind.
func TestReadTwoFaults(t *testing.T) {
	long := "0" + "01010101010" + "11" + rows("10", 7) + "0"
	longRemote := long + "111" + "1" // the 18 bits' last three, and Remote
	tests := []struct {
		what, b string
		e       api.Errno
	}{
		{"ends with five", "0" + "0000", api.ErrShort},
		{"six alike", "0" + "00000", api.ErrStuff},
		{"no beginning, and six alike", "1" + "11111", api.ErrForm},
		{"the first bit of 1, and none that must be put in", "1", api.ErrForm},

		// Remote and Fast, and with the first 1 of 1010 there are five.
		{"Remote and Fast, ends with five", longRemote + "1", api.ErrShort},
		{"Remote and Fast, six alike", longRemote + "11", api.ErrStuff},
		{"Remote and Fast, five and one put in", longRemote + "10", api.ErrForm},

		// Remote ahead of a wrong one of 1010, and a wrong one ahead of the next.
		{"Remote, and the second of 1010", "0" + "01010101010" + "10" + "11", api.ErrForm},
		{"the second of 1010, then six alike", "0" + "01010101010" + "00" + "11" + "11111", api.ErrForm},
		{"six alike, then the second of 1010", "0" + "00000" + "0101010" + "00" + "11", api.ErrStuff},

		// One put in behind five 0, and with 1111 there are five 1.
		{"15 bytes, ends with five", "0" + "10101010100" + "00" + "0" + "1" + "1111", api.ErrShort},
		{"15 bytes, six alike", "0" + "10101010100" + "00" + "0" + "1" + "1111" + "1", api.ErrStuff},
		{"15 bytes, five and one put in", "0" + "10101010100" + "00" + "0" + "1" + "1111" + "0", api.ErrForm},
		{"more than 8 bytes, but it ends", "0" + "01010101010" + "00" + "0" + "11", api.ErrShort},

		// A bit that is Remote or must be 1: five with it, ahead of the one that says which.
		{"Remote or not, ends with five", "0" + "10101010000" + "0", api.ErrShort},
		{"Remote or not, six alike", "0" + "10101010000" + "0" + "0" + "1", api.ErrStuff},
		{"not 1 of a Long one", "0" + "10101010000" + "0" + "1" + "1", api.ErrForm},
	}
	for _, x := range tests {
		fails(t, x.what, x.b, x.e)
		sameRead(t, x.b)
	}
}

// TestReadPutIn: each bit that was put in behind five is turned.
func TestReadPutIn(t *testing.T) {
	seen := 0
	for _, f := range fewFrames() {
		b, _ := Bits(f)
		h := headTold(f)
		if !f.Fast {
			h += sumTold(0, h)
		}
		for n := range len(h) + 1 {
			at := len(putTold(h[:n]))
			if n > 0 && at-len(putTold(h[:n-1])) == 2 {
				seen++
				fails(t, "one that was put in", turned(b, at-1), api.ErrStuff)
				fails(t, "one that was put in, and it ends", turned(b, at-1)[:at], api.ErrStuff)
				fails(t, "one that was put in, and all behind it", turned(b, at-1)[:at]+rows("0", 20), api.ErrStuff)
				fails(t, "ahead of one that was put in", b[:at-1], api.ErrShort)
			}
		}
	}
	if seen < 50 {
		t.Errorf("only %d were put in", seen)
	}
}

// TestReadSumEndsAlike: one is put in behind the last bit of a sum, too, and is
// read ahead of telling of the sum.
func TestReadSumEndsAlike(t *testing.T) {
	seen := 0
	for id := range api.MaxID + 1 {
		f := api.Frame{ID: id, Data: []byte{byte(id)}}
		h := headTold(f)
		put := putTold(h + sumTold(0, h))
		if n := len(putTold(h + sumTold(0, h)[:14])); len(put)-n != 2 {
			continue
		}
		seen++
		last := len(put) - 1
		b, _ := Bits(f)
		fails(t, "ahead of the last that was put in", b[:last], api.ErrShort)
		fails(t, "the last that was put in", turned(b, last), api.ErrStuff)
		// The data's last bit is wrong, too: that is told when the sum is read.
		sameRead(t, turned(b, last, last-30))
		if g, n, e := Read(b); !Same(f, g) || n != len(b) || e != api.OK {
			t.Errorf("Read(Bits(%+v)): %+v, %d, %d", f, g, n, e)
		}
	}
	if seen == 0 {
		t.Error("no sum ends so")
	}
}

// TestReadSum: a sum that isn't right is told when all of it is read, ahead of the last ten.
func TestReadSum(t *testing.T) {
	for _, f := range []api.Frame{{ID: 0x123, Data: []byte{0x5A}}, {ID: 0x2AA, Remote: true, Size: 5}, {ID: 0x15555555, Long: true}} {
		h := headTold(f)
		sum := sumTold(0, h)
		for i := range 15 {
			b := putTold(h + turned(sum, i))
			for _, more := range append(whatFollows, "0000000000", rows("1", 9)) {
				fails(t, "another sum", b+more, api.ErrCheck)
			}
			for n := len(putTold(h)); n < len(b); n++ {
				fails(t, "another sum, short", b[:n], api.ErrShort)
			}
		}
	}
}

// fixedFrame is a Fast frame with another count and another sum, and how many bits are ahead of them.
func fixedFrame(f api.Frame, count string, kind int, flip int) (string, int) {
	b := putTold(headTold(f))
	sum := sumTold(kind, b+count)
	if flip >= 0 {
		sum = turned(sum, flip)
	}
	return b + fixedTold(count+sum, b[len(b)-1]) + rows("1", 10), len(b)
}

// TestReadCount: a count that isn't right is seen, also where the sum fits it.
func TestReadCount(t *testing.T) {
	for _, f := range fewFrames() {
		if !f.Fast {
			continue
		}
		h := headTold(f)
		right := counts[(len(putTold(h))-len(h))%8]
		kind := kindTold(len(f.Data))
		for n := range 16 {
			count := "0000" + strconv.FormatInt(int64(n), 2)
			count = count[len(count)-4:]
			b, _ := fixedFrame(f, count, kind, -1)
			if count != right {
				fails(t, "another count", b, api.ErrCheck)
				fails(t, "another count, and one of the last ten", turned(b, len(b)-1), api.ErrCheck)
				fails(t, "another count, and it ends", b[:len(b)-10], api.ErrCheck)
			} else if g, _, e := Read(b); !Same(f, g) || e != api.OK {
				t.Errorf("Read(%q): %+v, %d", b, g, e)
			}
		}
		for i := range []int{15, 17, 21}[kind] {
			b, _ := fixedFrame(f, right, kind, i)
			fails(t, "another sum", b, api.ErrCheck)
			fails(t, "another sum, and one of the last ten", turned(b, len(b)-1), api.ErrCheck)
			fails(t, "another sum, and it ends", b[:len(b)-10], api.ErrCheck)
		}
		b, _ := fixedFrame(f, right, 3-kind, -1)
		if _, _, e := Read(b); e == api.OK {
			t.Errorf("Read(%+v with the other kind of sum): OK", f)
		}
	}
}

// TestReadFixed: all that is Fixed is read first; then those that were put in are held against it, then the rest.
func TestReadFixed(t *testing.T) {
	for _, f := range fewFrames() {
		if !f.Fast {
			continue
		}
		size := 27
		if len(f.Data) > 16 {
			size = 32
		}
		b, _ := Bits(f)
		at := len(b) - 10 - size
		for i := 0; i < size; i += 5 {
			bad := turned(b, at+i)
			fails(t, "one that is Fixed", bad, api.ErrStuff)
			fails(t, "one that is Fixed, and it ends", bad[:at+size], api.ErrStuff)
			fails(t, "one that is Fixed, and one of the last ten", turned(bad, len(b)-1), api.ErrStuff)
			for n := at; n < at+size; n++ {
				fails(t, "one that is Fixed, short", bad[:n], api.ErrShort)
			}
			// A wrong count stands ahead of it, and is told behind it nevertheless.
			fails(t, "one that is Fixed, and the count", turned(bad, at+2), api.ErrStuff)
		}
		// The bit ahead of a Fixed one is turned, too: then that one is as it must be.
		fails(t, "two that fit one another", turned(b, at+4, at+5), api.ErrCheck)
	}
}

// TestHeadEndsAlike: Fast ones of which one is put in behind the head.
func TestHeadEndsAlike(t *testing.T) {
	for _, f := range []api.Frame{
		{ID: 3, Fast: true},
		{ID: 3, Fast: true, Long: true},
		{ID: 3, Fast: true, Data: []byte{0x1F}},
		{ID: 3, Fast: true, Data: []byte{0xA0, 0xE0}},
		{ID: 3, Fast: true, Data: append(mixed(19, 1), 0x1F)},
	} {
		h := headTold(f)
		n := len(putTold(h))
		b, _ := Bits(f)
		if b[n-1] == b[n-2] || b[n-2] != b[n-6] {
			t.Fatalf("Bits(%+v): none is put in behind the head", f)
		}
		if b != bitsTold(f) || b[n] == b[n-1] {
			t.Errorf("Bits(%+v): %q, want %q", f, b, bitsTold(f))
		}
		fails(t, "ahead of it", b[:n-1], api.ErrShort)
		fails(t, "it is turned", turned(b, n-1), api.ErrStuff)
		fails(t, "it is turned, and it ends", turned(b, n-1)[:n], api.ErrStuff)
		fails(t, "what is Fixed behind it", turned(b, n), api.ErrStuff)
	}
}

func TestReadNoRow(t *testing.T) {
	b, _ := Bits(api.Frame{ID: 5, Data: []byte{1, 2}})
	tests := []struct {
		b string
		e api.Errno
	}{
		{"", api.ErrShort},
		{"x", api.ErrForm},
		{"2", api.ErrForm},
		{b + "x", api.ErrForm},
		{b + "\x00", api.ErrForm},
		{b + "\u0661", api.ErrForm},
		{"x" + b, api.ErrForm},
		{strings.Replace(b, "1", "2", 1), api.ErrForm},
		{"000000" + "x", api.ErrForm}, // Check's error comes ahead of all others
		{"0" + "x", api.ErrForm},
		{"000000" + rows("0", 994), api.ErrStuff},
		{b + rows("0", api.MaxBits+1-len(b)), api.ErrMany},
		{b + rows("x", api.MaxBits+1-len(b)), api.ErrMany},
		{rows("1", api.MaxBits+1), api.ErrMany},
		{rows("0", 100000), api.ErrMany},
	}
	for _, x := range tests {
		fails(t, "no row", x.b, x.e)
	}
	if _, n, e := Read(b + rows("0", api.MaxBits-len(b))); n != len(b) || e != api.OK {
		t.Errorf("Read of the longest row: %d, %d", n, e)
	}
}

// TestReadNewMemory: two answers share nothing.
func TestReadNewMemory(t *testing.T) {
	b, _ := Bits(api.Frame{ID: 5, Data: []byte{1, 2}})
	f, _, _ := Read(b)
	g, _, _ := Read(b)
	f.Data[0] = 9
	if g.Data[0] != 1 {
		t.Error("two answers share their Data")
	}
}
