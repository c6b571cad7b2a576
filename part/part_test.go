package part

import (
	"bytes"
	"math/rand"
	"slices"
	"testing"

	"omnibus/api"
)

// edges are lengths at which something begins or ends: 118 and 119 are those of
// the sixteenth next part, and of one behind it.
var edges = []int{1, 2, 6, 7, 8, 9, 12, 13, 14, 15, 19, 20, 21, 110, 111, 112, 117, 118, 119, 125, 126, 255, 256, 257, 293, 294, 299, 300}

// counted has n bytes: 0, 1, 2 and so on.
func counted(n int) []byte {
	l := make([]byte, n)
	for i := range l {
		l[i] = byte(i)
	}
	return l
}

// mixed has n bytes without a plain order; other seeds, other bytes.
func mixed(n int, seed int64) []byte {
	l := make([]byte, n)
	rand.New(rand.NewSource(seed)).Read(l)
	return l
}

// joined has all bytes of l, each list behind the other.
func joined(l ...[]byte) []byte { return slices.Concat(l...) }

// partsOf is what Split makes of data, worked out again, byte by byte.
func partsOf(data []byte) [][]byte {
	if len(data) < 8 {
		return [][]byte{joined([]byte{byte(len(data))}, data)}
	}
	l := [][]byte{{byte(16 + len(data)/256), byte(len(data) % 256)}}
	number := 0
	for i, x := range data {
		if i == 6 || i > 6 && len(l[len(l)-1]) == 8 {
			if number++; number == 16 {
				number = 0
			}
			l = append(l, []byte{byte(32 + number)})
		}
		l[len(l)-1] = append(l[len(l)-1], x)
	}
	return l
}

func sameParts(a, b [][]byte) bool { return slices.EqualFunc(a, b, bytes.Equal) }

// TestSplitKnown: parts that are written out.
func TestSplitKnown(t *testing.T) {
	tests := []struct {
		n    int
		want [][]byte
	}{
		{1, [][]byte{{0x01, 0}}},
		{6, [][]byte{{0x06, 0, 1, 2, 3, 4, 5}}},
		{7, [][]byte{{0x07, 0, 1, 2, 3, 4, 5, 6}}},
		{8, [][]byte{{0x10, 8, 0, 1, 2, 3, 4, 5}, {0x21, 6, 7}}},
		{13, [][]byte{{0x10, 13, 0, 1, 2, 3, 4, 5}, {0x21, 6, 7, 8, 9, 10, 11, 12}}},
		{14, [][]byte{{0x10, 14, 0, 1, 2, 3, 4, 5}, {0x21, 6, 7, 8, 9, 10, 11, 12}, {0x22, 13}}},
		{20, [][]byte{{0x10, 20, 0, 1, 2, 3, 4, 5}, {0x21, 6, 7, 8, 9, 10, 11, 12}, {0x22, 13, 14, 15, 16, 17, 18, 19}}},
	}
	for _, x := range tests {
		if l, e := Split(counted(x.n)); !sameParts(l, x.want) || e != api.OK {
			t.Errorf("Split of %d bytes: %x %d, want %x", x.n, l, e, x.want)
		}
	}
}

// TestSplitSome: single parts of longer messages, by their places.
func TestSplitSome(t *testing.T) {
	tests := []struct {
		n, parts, at int
		want         []byte
	}{
		{111, 16, 15, []byte{0x2F, 104, 105, 106, 107, 108, 109, 110}},
		{112, 17, 16, []byte{0x20, 111}},
		{118, 17, 0, []byte{0x10, 118, 0, 1, 2, 3, 4, 5}},
		{118, 17, 16, []byte{0x20, 111, 112, 113, 114, 115, 116, 117}},
		{119, 18, 16, []byte{0x20, 111, 112, 113, 114, 115, 116, 117}},
		{119, 18, 17, []byte{0x21, 118}},
		{255, 37, 0, []byte{0x10, 255, 0, 1, 2, 3, 4, 5}},
		{256, 37, 0, []byte{0x11, 0, 0, 1, 2, 3, 4, 5}},
		{300, 43, 0, []byte{0x11, 44, 0, 1, 2, 3, 4, 5}},
		{300, 43, 32, []byte{0x20, 223, 224, 225, 226, 227, 228, 229}},
		{300, 43, 42, []byte{0x2A, 37, 38, 39, 40, 41, 42, 43}},
	}
	for _, x := range tests {
		l, e := Split(counted(x.n))
		if len(l) != x.parts || e != api.OK {
			t.Errorf("Split of %d bytes: %d parts %d, want %d", x.n, len(l), e, x.parts)
			continue
		}
		if !bytes.Equal(l[x.at], x.want) {
			t.Errorf("Split of %d bytes, part %d: %x, want %x", x.n, x.at, l[x.at], x.want)
		}
	}
}

// TestSplit: all lengths, with several contents.
func TestSplit(t *testing.T) {
	for n := 1; n <= api.MaxMessage; n++ {
		for _, data := range [][]byte{counted(n), mixed(n, int64(n)), make([]byte, n), bytes.Repeat([]byte{0xFF}, n)} {
			want := partsOf(data)
			if l, e := Split(data); !sameParts(l, want) || e != api.OK {
				t.Fatalf("Split(%x): %x %d, want %x", data, l, e, want)
			}
		}
	}
}

// wrongData are lists of bytes that can't be sent, by what is told of them.
func wrongData() map[api.Errno][][]byte {
	return map[api.Errno][][]byte{
		api.ErrShort: {nil, {}, make([]byte, 0, 20)},
		api.ErrMany:  {counted(api.MaxMessage + 1), counted(api.MaxMessage + 2), counted(4095), counted(4096), counted(4104), make([]byte, 70000)},
	}
}

func TestSplitWrong(t *testing.T) {
	for want, l := range wrongData() {
		for _, data := range l {
			if out, e := Split(data); out != nil || e != want {
				t.Errorf("Split of %d bytes: %x %d, want none, %d", len(data), out, e, want)
			}
		}
	}
}

// roomy has data with room behind it, in which something stands.
func roomy(data []byte) []byte {
	l := append(bytes.Clone(data), "room behind what is handed in, in which this stands"...)
	return l[:len(data)]
}

// scrawl changes all that l has, what lies behind it too.
func scrawl(l []byte) {
	l = l[:cap(l)]
	for i := range l {
		l[i] ^= 0xFF
	}
}

// checkApart: no two of the lists share memory, what lies behind them among it:
// whichever of them is changed, the others stay.
func checkApart(t *testing.T, what string, l ...[]byte) {
	t.Helper()
	for i := range l {
		var before [][]byte
		for _, x := range l {
			before = append(before, bytes.Clone(x[:cap(x)]))
		}
		scrawl(l[i])
		for k, x := range l {
			if k != i && !bytes.Equal(x[:cap(x)], before[k]) {
				t.Errorf("%s: list %d changed with list %d", what, k, i)
			}
		}
		scrawl(l[i])
	}
}

// kept has what tells whether l, and what lies behind it, stays as it is now.
func kept(t *testing.T, what string, l []byte) func() {
	before, size := bytes.Clone(l[:cap(l)]), len(l)
	return func() {
		t.Helper()
		if len(l) != size || !bytes.Equal(l[:cap(l)], before) {
			t.Errorf("%s changed what was handed in", what)
		}
	}
}

func TestSplitMemory(t *testing.T) {
	for n := range api.MaxMessage + 2 {
		data := roomy(mixed(n, 3))
		same := kept(t, "Split", data)
		l, _ := Split(data)
		same()
		checkApart(t, "Split", append(l, data)...)
	}
}
