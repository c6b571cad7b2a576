package guard

import (
	"bytes"
	"math"
	"math/rand"
	"testing"

	"omnibus/api"
	"omnibus/bits"
	"omnibus/check"
)

// sumOf is chapter 3's sum of kind 3, written again, byte by byte.
func sumOf(l ...byte) byte {
	n := byte(0xFF)
	for _, x := range l {
		n ^= x
		for range 8 {
			out := n >> 7
			n = n<<1 ^ out*0x2F
		}
	}
	return ^n
}

// made is what Put makes, worked out again; the counter may be 15, too.
func made(key, counter int, data []byte) []byte {
	rest := append([]byte{data[1]/16*16 + byte(counter)}, data[2:]...)
	all := append([]byte{byte(key / 256), byte(key % 256)}, rest...)
	return append([]byte{sumOf(all...)}, rest...)
}

// mixed has n bytes without a plain order; other seeds, other bytes.
func mixed(n int, seed int64) []byte {
	l := make([]byte, n)
	rand.New(rand.NewSource(seed)).Read(l)
	return l
}

// someData are data that may be, of all lengths.
func someData() [][]byte {
	l := [][]byte{{0, 0}, {0xFF, 0xFF}, {0x5A, 0x0F}, {0xA5, 0xF0}, make([]byte, api.MaxBytes), bytes.Repeat([]byte{0xFF}, api.MaxBytes)}
	for n := 2; n <= api.MaxBytes; n++ {
		l = append(l, mixed(n, int64(n)))
	}
	return l
}

var (
	someKeys   = []int{0, 1, 7, 128, 254, 255, 256, 257, 4660, 32767, 32768, 65280, 65534, 65535}
	noKeys     = []int{-1, -2, 65536, 65537, 1 << 17, -65536, 1 << 32, 1<<32 + 7, math.MinInt, math.MaxInt}
	noCounters = []int{-1, -2, 15, 16, 17, 30, -15, 255, 256, 1 << 32, math.MinInt, math.MaxInt}
	shorts     = [][]byte{nil, {}, {0}, {0xFF}}
	longs      = [][]byte{make([]byte, api.MaxBytes+1), bytes.Repeat([]byte{0xFF}, api.MaxBytes+2), make([]byte, 125), make([]byte, 126), make([]byte, 5000)}
)

// putOf is what Put makes of what it takes.
func putOf(t *testing.T, key, counter int, data []byte) []byte {
	t.Helper()
	out, e := Put(key, counter, data)
	if e != api.OK {
		t.Fatalf("Put(%d, %d, %x): %d", key, counter, data, e)
	}
	return out
}

// TestPutKnown: sums that are known of this kind, of key and data together.
func TestPutKnown(t *testing.T) {
	tests := []struct {
		key, counter int
		data, want   []byte
	}{
		{0, 0, []byte{0xAA, 0x0C, 0}, []byte{0x12, 0, 0}},
		{0xF201, 3, []byte{0, 0x8F}, []byte{0xC2, 0x83}},
		{0x0FAA, 0, []byte{1, 0x09, 0x55}, []byte{0xC6, 0, 0x55}},
		{0x00FF, 5, []byte{0xFF, 0x50, 0x11}, []byte{0x77, 0x55, 0x11}},
		{0x926B, 5, []byte{0, 0x5A}, []byte{0x33, 0x55}},
		{0x3322, 5, []byte{9, 0x50, 0xAA, 0xBB, 0xCC, 0xDD, 0xEE, 0xFF}, []byte{0x11, 0x55, 0xAA, 0xBB, 0xCC, 0xDD, 0xEE, 0xFF}},
		{0x3132, 3, []byte("?0456789"), append([]byte{0xDF}, "3456789"...)}, // the sum of 123456789
	}
	for _, x := range tests {
		if out, e := Put(x.key, x.counter, x.data); !bytes.Equal(out, x.want) || e != api.OK {
			t.Errorf("Put(%#x, %d, %x): %x %d, want %x", x.key, x.counter, x.data, out, e, x.want)
		}
	}
}

// TestPut: of all lengths, keys at the edges, and all counters.
func TestPut(t *testing.T) {
	for _, data := range someData() {
		for _, key := range someKeys {
			for counter := range 15 {
				want := made(key, counter, data)
				if out, e := Put(key, counter, data); !bytes.Equal(out, want) || e != api.OK {
					t.Fatalf("Put(%d, %d, %x): %x %d, want %x", key, counter, data, out, e, want)
				}
			}
		}
	}
}

// TestPutAllKeys: each key goes into the sum with all its bits, the higher byte first.
func TestPutAllKeys(t *testing.T) {
	data := []byte{3, 0x47, 0x11}
	for key := range 65536 {
		want := made(key, 9, data)
		if out, e := Put(key, 9, data); !bytes.Equal(out, want) || e != api.OK {
			t.Fatalf("Put(%d, 9, %x): %x %d, want %x", key, data, out, e, want)
		}
	}
}

// TestPutIsChapterThree: the sum is the one that package check tells, of key's
// bytes and all bytes that are answered but the first.
func TestPutIsChapterThree(t *testing.T) {
	for i, data := range someData() {
		key, counter := i*997%65536, i%15
		out := putOf(t, key, counter, data)
		row, _ := bits.Of(append([]byte{byte(key >> 8), byte(key)}, out[1:]...))
		s, _ := bits.Of(out[:1])
		if ok, e := check.Holds(3, row+s); !ok || e != api.OK {
			t.Errorf("Put(%d, %d, %x): %x: the sum doesn't hold", key, counter, data, out)
		}
	}
}

// TestPutStays: just the first byte and the lower half of the second are put.
func TestPutStays(t *testing.T) {
	for _, data := range someData() {
		for counter := range 15 {
			out := putOf(t, 77, counter, data)
			if len(out) != len(data) || out[1]>>4 != data[1]>>4 || int(out[1]&15) != counter || !bytes.Equal(out[2:], data[2:]) {
				t.Errorf("Put(77, %d, %x): %x", counter, data, out)
			}
		}
	}
}

// TestPutNoDifference: what stood where sum and counter are put is of no account.
func TestPutNoDifference(t *testing.T) {
	for _, data := range someData()[:20] {
		for counter := range 15 {
			want := putOf(t, 300, counter, data)
			for first := range 256 {
				other := bytes.Clone(data)
				other[0] = byte(first)
				other[1] ^= byte(first % 16)
				if out := putOf(t, 300, counter, other); !bytes.Equal(out, want) {
					t.Fatalf("Put(300, %d, %x): %x, want %x as of %x", counter, other, out, want, data)
				}
			}
			if again := putOf(t, 300, counter, want); !bytes.Equal(again, want) {
				t.Errorf("Put(300, %d, %x): %x, want the same", counter, want, again)
			}
		}
	}
}

// checkPutWrong: Put must tell want, and nothing else.
func checkPutWrong(t *testing.T, key, counter int, data []byte, want api.Errno) {
	t.Helper()
	if out, e := Put(key, counter, data); out != nil || e != want {
		t.Errorf("Put(%d, %d, %d bytes): %x %d, want none, %d", key, counter, len(data), out, e, want)
	}
}

func TestPutWrong(t *testing.T) {
	right := []byte{1, 2, 3}
	for _, key := range noKeys {
		checkPutWrong(t, key, 0, right, api.ErrRange)
		checkPutWrong(t, key, 14, right, api.ErrRange)
	}
	for _, counter := range noCounters {
		for _, key := range someKeys {
			checkPutWrong(t, key, counter, right, api.ErrRange)
		}
		for _, key := range noKeys {
			checkPutWrong(t, key, counter, right, api.ErrRange)
		}
	}
	for _, key := range someKeys {
		for counter := range 15 {
			for _, data := range shorts {
				checkPutWrong(t, key, counter, data, api.ErrShort)
			}
			for _, data := range longs {
				checkPutWrong(t, key, counter, data, api.ErrMany)
			}
		}
	}
}

// TestPutFirstError: a key or counter that may not be is told ahead of the length.
func TestPutFirstError(t *testing.T) {
	for _, data := range append(append([][]byte{}, shorts...), longs...) {
		for _, key := range noKeys {
			checkPutWrong(t, key, 3, data, api.ErrRange)
		}
		for _, counter := range noCounters {
			checkPutWrong(t, 3, counter, data, api.ErrRange)
			checkPutWrong(t, -1, counter, data, api.ErrRange)
		}
	}
}

// rights are guards that may be, each field at its bounds with each of the others.
func rights() []api.Guard {
	var l []api.Guard
	for _, key := range []int{0, 1, 255, 256, 65534, 65535} {
		for last := -1; last <= 14; last++ {
			for _, bad := range []int{0, 1, api.MaxTime - 1, api.MaxTime, api.MaxTime + 1, math.MaxInt} {
				for _, state := range []int{api.Fresh, api.Good, api.Gap, api.Same, api.Broken} {
					l = append(l, api.Guard{Key: key, Last: last, Bad: bad, State: state})
				}
			}
		}
	}
	return l
}

// wrongs are guards that are g but for one field, or for all of them, that may not be.
func wrongs(g api.Guard) []api.Guard {
	var l []api.Guard
	for _, key := range noKeys {
		x := g
		x.Key = key
		l = append(l, x)
	}
	for _, last := range []int{-2, -3, 15, 16, 29, -16, 1 << 32, math.MinInt, math.MaxInt} {
		x := g
		x.Last = last
		l = append(l, x)
	}
	for _, bad := range []int{-1, -2, -api.MaxTime, math.MinInt} {
		x := g
		x.Bad = bad
		l = append(l, x)
	}
	for _, state := range []int{-1, -2, 5, 6, 1 << 32, math.MinInt, math.MaxInt} {
		x := g
		x.State = state
		l = append(l, x)
	}
	return append(l, api.Guard{Key: -1, Last: -2, Bad: -1, State: -1}, api.Guard{Key: 65536, Last: 15, Bad: -1, State: 5})
}

func TestCheck(t *testing.T) {
	for _, g := range rights() {
		if e := Check(g); e != api.OK {
			t.Errorf("Check(%+v): %d, want %d", g, e, api.OK)
		}
	}
	for _, g := range rights() {
		for _, x := range wrongs(g) {
			if e := Check(x); e != api.ErrRange {
				t.Fatalf("Check(%+v): %d, want %d", x, e, api.ErrRange)
			}
		}
	}
	if e := Check(api.Guard{}); e != api.OK {
		t.Errorf("Check of the zero guard: %d", e)
	}
}

// roomy has data with room behind it, in which something stands.
func roomy(data []byte) []byte {
	l := append(bytes.Clone(data), mixed(90, 5)...)
	return l[:len(data)]
}

// scrawl changes all that l has, what lies behind it too.
func scrawl(l []byte) {
	l = l[:cap(l)]
	for i := range l {
		l[i] ^= 0xFF
	}
}

// TestMemory: what is handed in stays as it is, and what is answered is its own.
func TestMemory(t *testing.T) {
	for _, data := range append(append(someData(), shorts...), longs...) {
		for _, counter := range []int{-1, 0, 6, 14, 15} {
			in := roomy(data)
			before := bytes.Clone(in[:cap(in)])
			out, e := Put(513, counter, in)
			other, _ := Put(513, counter, in)
			See(api.Guard{Key: 513, Last: 5}, in, 3)
			if !bytes.Equal(in[:cap(in)], before) {
				t.Fatalf("Put or See changed %x", data)
			}
			if e != api.OK {
				continue
			}
			want := made(513, counter, data)
			scrawl(in)
			scrawl(other)
			if !bytes.Equal(out, want) {
				t.Errorf("Put(513, %d, %x) changed with what was handed in, or with another answer", counter, data)
			}
			copy(in[:cap(in)], before)
			scrawl(out)
			if !bytes.Equal(in[:cap(in)], before) {
				t.Errorf("Put(513, %d, %x): with the answer, what was handed in changed", counter, data)
			}
		}
	}
}
