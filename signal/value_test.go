package signal

import (
	"bytes"
	"fmt"
	"math"
	"math/big"
	"math/rand"
	"slices"
	"testing"

	"omnibus/api"
)

// ones has n bytes of all ones.
func ones(n int) []byte { return bytes.Repeat([]byte{255}, n) }

func TestRead(t *testing.T) {
	for _, c := range []struct {
		s             api.Signal
		data          []byte
		raw, num, den int
	}{
		// one bit
		{plain(0, 1), []byte{0}, 0, 0, 1},
		{plain(0, 1), []byte{1}, 1, 1, 1},
		{plain(0, 1), []byte{0xfe}, 0, 0, 1},
		{signed(plain(0, 1)), []byte{0xfe}, 0, 0, 1},
		{signed(plain(0, 1)), []byte{1}, -1, -1, 1},
		{back(7, 1), []byte{0x80}, 1, 1, 1},
		{signed(back(7, 1)), []byte{0x80}, -1, -1, 1},
		{signed(back(7, 1)), []byte{0x7f}, 0, 0, 1},
		// within a byte, and over into the next one
		{plain(0, 8), []byte{0xa5}, 0xa5, 0xa5, 1},
		{back(7, 8), []byte{0xa5}, 0xa5, 0xa5, 1},
		{plain(2, 3), []byte{0x14}, 5, 5, 1},
		{back(4, 3), []byte{0x14}, 5, 5, 1},
		{plain(2, 3), []byte{0xeb}, 2, 2, 1},
		{plain(7, 2), []byte{0x80, 0}, 1, 1, 1},
		{plain(7, 2), []byte{0, 1}, 2, 2, 1},
		{back(0, 2), []byte{1, 0}, 2, 2, 1},
		{back(0, 2), []byte{0, 0x80}, 1, 1, 1},
		{plain(0, 16), []byte{0x34, 0x12}, 0x1234, 0x1234, 1},
		{back(7, 16), []byte{0x12, 0x34}, 0x1234, 0x1234, 1},
		{plain(4, 12), []byte{0x34, 0x12}, 0x123, 0x123, 1},
		{back(7, 12), []byte{0x12, 0x34}, 0x123, 0x123, 1},
		{back(3, 12), []byte{0x12, 0x34}, 0x234, 0x234, 1},
		{plain(8, 40), []byte{9, 0x9a, 0x78, 0x56, 0x34, 0x12, 9}, 0x123456789a, 0x123456789a, 1},
		{back(15, 40), []byte{9, 0x12, 0x34, 0x56, 0x78, 0x9a, 9}, 0x123456789a, 0x123456789a, 1},
		{plain(4, 40), []byte{0xaf, 0x89, 0x67, 0x45, 0x23, 0xf1}, 0x123456789a, 0x123456789a, 1},
		{back(3, 40), []byte{0xf1, 0x23, 0x45, 0x67, 0x89, 0xaf}, 0x123456789a, 0x123456789a, 1},
		{plain(504, 8), append(make([]byte, 63), 7), 7, 7, 1},
		// lowest terms
		{scaled(plain(0, 8), 1, 10, 0), []byte{25}, 25, 5, 2},
		{scaled(plain(0, 8), 4, 6, 0), []byte{1}, 1, 2, 3},
		{scaled(plain(0, 8), 6, 4, 0), []byte{1}, 1, 3, 2},
		{scaled(plain(0, 8), 6, 4, 0), []byte{2}, 2, 3, 1},
		{scaled(plain(0, 8), 6, 3, 0), []byte{1}, 1, 2, 1},
		{scaled(plain(0, 8), 1000000, 1000000, 0), []byte{200}, 200, 200, 1},
		{scaled(plain(0, 8), 1, 1000000, 0), []byte{1}, 1, 1, 1000000},
		{scaled(plain(0, 8), 1, 1000000, 0), []byte{64}, 64, 1, 15625},
		{scaled(plain(0, 8), 1, 999983, 0), []byte{64}, 64, 64, 999983},
		{scaled(plain(0, 8), -4, 6, 0), []byte{1}, 1, -2, 3},
		{scaled(plain(0, 8), -1, 2, 0), []byte{3}, 3, -3, 2},
		{scaled(signed(plain(0, 8)), -4, 6, 0), []byte{255}, -1, 2, 3},
		{scaled(signed(plain(0, 8)), 4, 6, 0), []byte{255}, -1, -2, 3},
		// nothing
		{scaled(plain(0, 8), 7, 10, 0), []byte{0}, 0, 0, 1},
		{scaled(plain(0, 8), -7, 10, 0), []byte{0}, 0, 0, 1},
		{scaled(plain(0, 8), 7, 10, 3), []byte{0}, 0, 3, 1},
		{scaled(plain(0, 8), 7, 10, -3), []byte{0}, 0, -3, 1},
		// Add makes it nothing, or takes it to the other side
		{scaled(plain(0, 8), 1, 10, -3), []byte{30}, 30, 0, 1},
		{scaled(plain(0, 8), -1, 10, 3), []byte{30}, 30, 0, 1},
		{scaled(plain(0, 8), 1, 10, -3), []byte{25}, 25, -1, 2},
		{scaled(plain(0, 8), 1, 10, -3), []byte{35}, 35, 1, 2},
		{scaled(plain(0, 8), -1, 10, 3), []byte{35}, 35, -1, 2},
		{scaled(plain(0, 8), 1, 3, 1000000), []byte{1}, 1, 3000001, 3},
		{scaled(plain(0, 8), 1, 3, -1000000), []byte{1}, 1, -2999999, 3},
		// as much as may be
		{scaled(plain(0, 40), 1000000, 1, 1000000), ones(5), 1<<40 - 1, 1 << 40 * 1000000, 1},
		{scaled(plain(0, 40), -1000000, 1, -1000000), ones(5), 1<<40 - 1, -(1 << 40) * 1000000, 1},
		{scaled(plain(0, 40), 1000000, 999983, 1000000), ones(5), 1<<40 - 1, (1<<40-1)*1000000 + 999983*1000000, 999983},
		{scaled(plain(0, 40), -1000000, 999983, -1000000), ones(5), 1<<40 - 1, -(1<<40-1)*1000000 - 999983*1000000, 999983},
		{scaled(signed(plain(0, 40)), 1000000, 999983, -1000000), []byte{0, 0, 0, 0, 0x80}, -1 << 39, -(1<<39)*1000000 - 999983*1000000, 999983},
	} {
		raw, r, e := Read(c.s, c.data)
		if want := (api.Reading{Name: "s", Num: c.num, Den: c.den}); raw != c.raw || r != want || e != api.OK {
			t.Errorf("Read(%+v, %x): %d %+v %d, want %d %+v", c.s, c.data, raw, r, e, c.raw, want)
		}
	}
}

// TestReadName: the reading has the signal's name, whatever its Key is.
func TestReadName(t *testing.T) {
	for _, name := range []string{"a", "Zebra9", "abcdefghijklmnop"} {
		s := plain(0, 8)
		s.Name, s.Key = name, 255
		if raw, r, e := Read(s, []byte{3}); raw != 3 || r != (api.Reading{Name: name, Num: 3, Den: 1}) || e != api.OK {
			t.Errorf("%q: %d %+v %d", name, raw, r, e)
		}
	}
}

// TestReadSizes: of each size, all bits 0, all bits 1, and the one that counts
// most alone, among bits that are otherwise.
func TestReadSizes(t *testing.T) {
	for size := 1; size <= 40; size++ {
		for start := range 8 {
			for _, s := range []api.Signal{plain(start, size), back(start, size)} {
				places := walk(s)
				all, none, most := ones(6), make([]byte, 6), make([]byte, 6)
				for _, at := range places {
					all[at/8] &^= 1 << (at % 8)
					none[at/8] |= 1 << (at % 8)
				}
				at := places[size-1]
				most[at/8] = 1 << (at % 8)
				checkRaw(t, s, all, 0)
				checkRaw(t, signed(s), all, 0)
				checkRaw(t, s, none, 1<<size-1)
				checkRaw(t, signed(s), none, -1)
				checkRaw(t, s, most, 1<<(size-1))
				checkRaw(t, signed(s), most, -1<<(size-1))
			}
		}
	}
}

// checkRaw holds what is read of a signal that means its raw number against want.
func checkRaw(t *testing.T, s api.Signal, data []byte, want int) {
	t.Helper()
	raw, r, e := Read(s, data)
	if raw != want || r != (api.Reading{Name: "s", Num: want, Den: 1}) || e != api.OK {
		t.Errorf("Read(%+v, %x): %d %+v %d, want %d", s, data, raw, r, e, want)
	}
}

func TestRaw(t *testing.T) {
	tenth := scaled(plain(0, 16), 1, 10, -5)
	for _, c := range []struct {
		s        api.Signal
		num, den int
		raw      int
		e        api.Errno
	}{
		{tenth, 25, 1, 300, api.OK},
		{tenth, 51, 2, 305, api.OK},
		{tenth, 102, 4, 305, api.OK},
		{tenth, 1, 3, 0, api.ErrForm},
		{tenth, 1, 20, 0, api.ErrForm},
		{tenth, 2, 20, 51, api.OK},
		{tenth, -5, 1, 0, api.OK},
		{tenth, -51, 10, 0, api.ErrRange},
		{tenth, -6, 1, 0, api.ErrRange},
		// den
		{plain(0, 8), 5, 1, 5, api.OK},
		{plain(0, 8), 5, 0, 0, api.ErrRange},
		{plain(0, 8), 0, 0, 0, api.ErrRange},
		{plain(0, 8), 5, -1, 0, api.ErrRange},
		{plain(0, 8), -5, -1, 0, api.ErrRange},
		{plain(0, 8), 5000000, 1000000, 5, api.OK},
		{plain(0, 8), 5000005, 1000001, 0, api.ErrRange},
		{plain(0, 8), 0, 1000000, 0, api.OK},
		{plain(0, 8), 0, 1000001, 0, api.ErrRange},
		{plain(0, 8), 0, math.MaxInt, 0, api.ErrRange},
		{plain(0, 8), 0, math.MinInt, 0, api.ErrRange},
		// num: its size is told ahead of the form and of the room
		{scaled(plain(0, 40), 1, 1, 1), 1 << 40, 1, 1<<40 - 1, api.OK},
		{scaled(plain(0, 40), 1, 1, 2), 1<<40 + 1, 1, 0, api.ErrRange},
		{scaled(plain(0, 40), -1, 1, -1), -1 << 40, 1, 1<<40 - 1, api.OK},
		{scaled(plain(0, 40), -1, 1, -2), -1<<40 - 1, 1, 0, api.ErrRange},
		{scaled(plain(0, 1), 3, 1, 0), 1 << 40, 1, 0, api.ErrForm},
		{scaled(plain(0, 1), 3, 1, 0), -1 << 40, 1, 0, api.ErrForm},
		{scaled(plain(0, 1), 2, 1, 0), 1<<40 + 1, 1, 0, api.ErrRange},
		{scaled(plain(0, 1), 2, 1, 0), -1<<40 - 1, 1, 0, api.ErrRange},
		{plain(0, 1), math.MaxInt, 1, 0, api.ErrRange},
		{plain(0, 1), math.MinInt, 1, 0, api.ErrRange},
		{scaled(plain(0, 1), 2, 1, 0), math.MaxInt, 1, 0, api.ErrRange},
		// lowest terms or not
		{plain(0, 8), 6, 2, 3, api.OK},
		{plain(0, 8), 6, 4, 0, api.ErrForm},
		{scaled(plain(0, 8), 1, 2, 0), 6, 4, 3, api.OK},
		{scaled(plain(0, 8), 2, 4, 0), 6, 4, 3, api.OK},
		{scaled(plain(0, 8), 2, 3, 0), 2, 3, 1, api.OK},
		{scaled(plain(0, 8), 2, 3, 0), 1, 3, 0, api.ErrForm},
		{scaled(plain(0, 8), 2, 3, 0), 2, 1, 3, api.OK},
		{scaled(plain(0, 8), 2, 3, 0), 1, 1, 0, api.ErrForm},
		{scaled(plain(0, 8), -2, 3, 0), -4, 6, 1, api.OK},
		{scaled(signed(plain(0, 8)), -2, 3, 0), 4, 6, -1, api.OK},
		{scaled(signed(plain(0, 8)), -2, 3, 7), 25, 3, -2, api.OK},
		{scaled(plain(0, 8), -2, 3, 7), 17, 3, 2, api.OK},
		// the form is told ahead of the room
		{plain(0, 8), 513, 2, 0, api.ErrForm},
		{plain(0, 8), -1, 2, 0, api.ErrForm},
		{plain(0, 8), 514, 2, 0, api.ErrRange},
		{scaled(plain(0, 8), 2, 1, 0), -1, 1, 0, api.ErrForm},
		{scaled(plain(0, 8), 2, 1, 0), -2, 1, 0, api.ErrRange},
		// as much as may be on the way
		{scaled(plain(0, 40), 1000000, 1000000, 1000000), 1 << 40, 1, 1<<40 - 1000000, api.OK},
		{scaled(signed(plain(0, 40)), 4, 1000000, -1000000), 1 << 40, 1000000, (1<<40 + 1000000*1000000) / 4, api.OK},
		{scaled(signed(plain(0, 40)), -4, 1000000, -1000000), 1 << 40, 1000000, -(1<<40 + 1000000*1000000) / 4, api.OK},
		{scaled(signed(plain(0, 40)), 4, 1000000, 1000000), -1 << 40, 1000000, -(1<<40 + 1000000*1000000) / 4, api.OK},
		{scaled(plain(0, 40), 1, 1000000, -1000000), 1 << 40, 1000000, 0, api.ErrRange},
		{scaled(plain(0, 40), 1, 1000000, -1000000), 1 << 40, 1, 0, api.ErrRange},
		{scaled(plain(0, 40), 1000000, 1, -1000000), 1 << 40, 999983, 0, api.ErrForm},
		{scaled(plain(0, 40), -1000000, 1, 1000000), -1 << 40, 1000000, 0, api.ErrForm},
	} {
		if raw, e := Raw(c.s, c.num, c.den); raw != c.raw || e != c.e {
			t.Errorf("Raw(%+v, %d, %d): %d %d, want %d %d", c.s, c.num, c.den, raw, e, c.raw, c.e)
		}
	}
}

// TestRawRoom: the least and the greatest raw number that has room, and one
// further on either side, of each size.
func TestRawRoom(t *testing.T) {
	for size := 1; size <= 40; size++ {
		for _, s := range []api.Signal{plain(0, size), back(7, size)} {
			checkRoom(t, s, 0, 1<<size-1)
			checkRoom(t, signed(s), -1<<(size-1), 1<<(size-1)-1)
			checkRoom(t, scaled(s, -1, 1, 0), 0, 1<<size-1)
			checkRoom(t, scaled(signed(s), -1, 1, 5), -1<<(size-1), 1<<(size-1)-1)
			checkRoom(t, scaled(signed(s), 1, 1, -1000), -1<<(size-1), 1<<(size-1)-1)
		}
	}
}

// checkRoom: s, whose Mul is 1 or -1 and whose Div is 1, has room for the raw
// numbers from low to high.
func checkRoom(t *testing.T, s api.Signal, low, high int) {
	t.Helper()
	for _, c := range []struct {
		raw int
		e   api.Errno
	}{{low - 1, api.ErrRange}, {low, api.OK}, {high, api.OK}, {high + 1, api.ErrRange}} {
		want := 0
		if c.e == api.OK {
			want = c.raw
		}
		if raw, e := Raw(s, c.raw*s.Mul+s.Add, 1); raw != want || e != c.e {
			t.Errorf("Raw(%+v, %d): %d %d, want %d %d", s, c.raw*s.Mul+s.Add, raw, e, want, c.e)
		}
	}
}

// TestRawPlace: Raw asks for a place in 64 bytes, and for no other.
func TestRawPlace(t *testing.T) {
	for _, c := range []struct {
		s api.Signal
		e api.Errno
	}{
		{plain(472, 40), api.OK}, {plain(473, 40), api.ErrShort}, {plain(512, 1), api.ErrShort}, {plain(-1, 1), api.ErrShort},
		{back(479, 40), api.OK}, {back(478, 40), api.ErrShort}, {back(504, 1), api.OK}, {back(504, 2), api.ErrShort},
		{plain(math.MaxInt, 40), api.ErrShort}, {back(math.MinInt, 40), api.ErrShort},
	} {
		want := 1
		if c.e != api.OK {
			want = 0
		}
		if c.s.Size > 1 {
			want *= 300
		}
		if raw, e := Raw(c.s, max(want, 1), 1); raw != want || e != c.e {
			t.Errorf("Raw(%+v): %d %d, want %d %d", c.s, raw, e, want, c.e)
		}
		if c.e == api.OK {
			continue
		}
		for _, f := range fractions {
			if raw, e := Raw(c.s, f[0], f[1]); raw != 0 || e != c.e {
				t.Errorf("Raw(%+v, %v): %d %d, want 0, %d", c.s, f, raw, e, c.e)
			}
		}
	}
}

func TestWrite(t *testing.T) {
	for _, c := range []struct {
		s        api.Signal
		data     []byte
		num, den int
		want     []byte
	}{
		{plain(0, 1), []byte{0}, 1, 1, []byte{1}},
		{plain(0, 1), []byte{255}, 0, 1, []byte{254}},
		{plain(7, 1), []byte{0}, 1, 1, []byte{0x80}},
		{back(7, 1), []byte{255}, 0, 1, []byte{0x7f}},
		{signed(plain(3, 1)), []byte{0}, -1, 1, []byte{8}},
		{signed(plain(3, 1)), []byte{255}, 0, 1, []byte{0xf7}},
		{plain(2, 3), []byte{0}, 5, 1, []byte{0x14}},
		{back(4, 3), []byte{0}, 5, 1, []byte{0x14}},
		{plain(2, 3), []byte{255}, 5, 1, []byte{0xf7}},
		{back(4, 3), []byte{255}, 5, 1, []byte{0xf7}},
		{plain(2, 3), []byte{255}, 1, 1, []byte{0xe7}},
		{back(4, 3), []byte{255}, 4, 1, []byte{0xf3}},
		{plain(4, 12), []byte{0, 0, 0}, 0x123, 1, []byte{0x30, 0x12, 0}},
		{plain(4, 12), ones(3), 0x123, 1, []byte{0x3f, 0x12, 0xff}},
		{back(7, 12), []byte{0, 0, 0}, 0x123, 1, []byte{0x12, 0x30, 0}},
		{back(7, 12), ones(3), 0x123, 1, []byte{0x12, 0x3f, 0xff}},
		{signed(back(7, 12)), []byte{0, 0, 0}, -2, 1, []byte{0xff, 0xe0, 0}},
		{signed(back(7, 12)), []byte{0, 0, 0}, -2048, 1, []byte{0x80, 0, 0}},
		{signed(plain(12, 12)), ones(3), -2048, 1, []byte{0xff, 0x0f, 0x80}},
		{plain(8, 40), ones(7), 0x123456789a, 1, []byte{255, 0x9a, 0x78, 0x56, 0x34, 0x12, 255}},
		{back(15, 40), ones(7), 0x123456789a, 1, []byte{255, 0x12, 0x34, 0x56, 0x78, 0x9a, 255}},
		{plain(4, 40), make([]byte, 6), 0x123456789a, 1, []byte{0xa0, 0x89, 0x67, 0x45, 0x23, 0x01}},
		{back(3, 40), make([]byte, 6), 0x123456789a, 1, []byte{0x01, 0x23, 0x45, 0x67, 0x89, 0xa0}},
		{scaled(plain(8, 16), 1, 10, -5), []byte{9, 9, 9}, 51, 2, []byte{9, 0x31, 1}},
		{scaled(back(15, 16), -1, 10, -5), []byte{9, 9, 9}, -71, 2, []byte{9, 1, 0x31}},
		{plain(511, 1), make([]byte, 64), 1, 1, append(make([]byte, 63), 0x80)},
	} {
		if got, e := Write(c.s, c.data, c.num, c.den); !bytes.Equal(got, c.want) || e != api.OK {
			t.Errorf("Write(%+v, %x, %d, %d): %x %d, want %x", c.s, c.data, c.num, c.den, got, e, c.want)
		}
	}
}

// TestWriteWrong: too few bytes are told ahead of what Raw doesn't take.
func TestWriteWrong(t *testing.T) {
	for _, s := range []api.Signal{plain(4, 12), back(7, 12), signed(back(3, 12))} {
		checkTold(t, s, 0, api.ErrShort)
		checkTold(t, s, 1, api.ErrShort)
		checkTold(t, s, 65, api.ErrRange)
		if out, e := Write(s, nil, 1, 1); out != nil || e != api.ErrShort {
			t.Errorf("Write into none: %v %d", out, e)
		}
		for _, size := range []int{2, 3, 64} {
			for _, c := range []struct {
				num, den int
				e        api.Errno
			}{
				{1, 0, api.ErrRange}, {1, -1, api.ErrRange}, {0, 1000001, api.ErrRange}, {1<<40 + 1, 1, api.ErrRange}, {-1<<40 - 1, 1, api.ErrRange},
				{1, 2, api.ErrForm}, {8193, 2, api.ErrForm}, {-4099, 2, api.ErrForm}, {4096, 1, api.ErrRange}, {-2049, 1, api.ErrRange},
				{math.MaxInt, math.MaxInt, api.ErrRange}, {math.MinInt, math.MinInt, api.ErrRange},
			} {
				if out, e := Write(s, ones(size), c.num, c.den); out != nil || e != c.e {
					t.Errorf("Write(%+v, %d bytes, %d, %d): %v %d, want none, %d", s, size, c.num, c.den, out, e, c.e)
				}
			}
		}
	}
}

// TestMemory: what is handed in stays as it is, what lies behind it too; what is
// answered shares nothing with it, or with another answer.
func TestMemory(t *testing.T) {
	for _, s := range []api.Signal{plain(4, 12), signed(back(7, 12)), scaled(plain(4, 12), 2, 1, 0), plain(16, 1), plain(20, 40)} {
		for _, num := range []int{0, 1, 2, 2000, 5000} {
			room := []byte{1, 2, 0xff, 4, 5}
			data := room[:3:4]
			before := fmt.Sprint(room, s)
			Read(s, data)
			out, _ := Write(s, data, num, 1)
			if after := fmt.Sprint(room, s); after != before {
				t.Fatalf("Write(%+v, %d): %s became %s", s, num, before, after)
			}
			again, _ := Write(s, data, num, 1)
			want := slices.Clone(out)
			scrawl(room)
			scrawl(again)
			if !bytes.Equal(out, want) {
				t.Errorf("Write(%+v, %d) shares memory", s, num)
			}
		}
	}
	s := plain(4, 12)
	a, _ := Places(s, 3)
	b, _ := Places(s, 3)
	for i := range a {
		a[i] = -1
	}
	if !slices.Equal(b, walk(s)) {
		t.Errorf("two lists of places share memory: %v", b)
	}
}

// TestMemoryNoChange: also what stays as it was is new memory.
func TestMemoryNoChange(t *testing.T) {
	data := []byte{1, 2}
	out, e := Write(plain(0, 8), data, 1, 1)
	if !bytes.Equal(out, data) || e != api.OK {
		t.Fatalf("%v %d", out, e)
	}
	scrawl(out)
	if !bytes.Equal(data, []byte{1, 2}) {
		t.Errorf("Write answers what was handed in: %v", data)
	}
}

// scrawl changes all that data has.
func scrawl(data []byte) {
	data = data[:cap(data)]
	for i := range data {
		data[i] ^= 255
	}
}

// randomData has so many bytes.
func randomData(r *rand.Rand, n int) []byte {
	data := make([]byte, n)
	for i := range data {
		data[i] = []byte{0, 255, byte(r.Intn(256))}[r.Intn(3)]
	}
	return data
}

// rawOf is what s's bits are in data, by places and powers of two.
func rawOf(s api.Signal, data []byte) *big.Int {
	raw := new(big.Int)
	for i, at := range walk(s) {
		raw.SetBit(raw, i, uint(data[at/8]>>(at%8)&1))
	}
	if s.Signed && raw.Bit(s.Size-1) == 1 {
		raw.Sub(raw, new(big.Int).Lsh(big.NewInt(1), uint(s.Size)))
	}
	return raw
}

// meant is what a raw number of s means, by fractions of any size.
func meant(s api.Signal, raw *big.Int) *big.Rat {
	out := new(big.Rat).SetInt(raw)
	out.Mul(out, big.NewRat(int64(s.Mul), int64(s.Div)))
	return out.Add(out, big.NewRat(int64(s.Add), 1))
}

// TestReadMany holds Read against a second way.
func TestReadMany(t *testing.T) {
	r := rand.New(rand.NewSource(2))
	for range 20000 {
		n := 5 + r.Intn(60)
		s, data := random(r, n), randomData(r, n)
		want := rawOf(s, data)
		means := meant(s, want)
		raw, got, e := Read(s, data)
		if int64(raw) != want.Int64() || e != api.OK || got.Name != s.Name || int64(got.Num) != means.Num().Int64() || int64(got.Den) != means.Denom().Int64() {
			t.Fatalf("Read(%+v, %x): %d %+v %d, want %v %v", s, data, raw, got, e, want, means)
		}
		if !means.Num().IsInt64() {
			t.Fatalf("%+v: %v has no room in an int", s, means)
		}
	}
}

// rawWant is what Raw answers, by fractions of any size; the signal is right.
func rawWant(s api.Signal, num, den int) (int, api.Errno) {
	if den < 1 || den > 1000000 || num < -1<<40 || num > 1<<40 {
		return 0, api.ErrRange
	}
	x := big.NewRat(int64(num), int64(den))
	x.Sub(x, big.NewRat(int64(s.Add), 1))
	x.Mul(x, big.NewRat(int64(s.Div), 1))
	x.Quo(x, big.NewRat(int64(s.Mul), 1))
	if !x.IsInt() {
		return 0, api.ErrForm
	}
	low, high := big.NewInt(0), new(big.Int).Lsh(big.NewInt(1), uint(s.Size))
	if s.Signed {
		high.Rsh(high, 1)
		low.Neg(high)
	}
	if x.Num().Cmp(low) < 0 || x.Num().Cmp(high) >= 0 {
		return 0, api.ErrRange
	}
	return int(x.Num().Int64()), api.OK
}

// randomFraction is often one that a raw number of s means, or nearly.
func randomFraction(r *rand.Rand, s api.Signal) (num, den int) {
	if r.Intn(3) == 0 {
		return r.Intn(1<<41+3) - 1<<40 - 1, factor(r)
	}
	raw := r.Intn(1<<r.Intn(s.Size+1)) - r.Intn(3)
	if s.Signed {
		raw -= 1 << (s.Size - 1)
	}
	m := meant(s, big.NewInt(int64(raw)))
	num, den = int(m.Num().Int64()), int(m.Denom().Int64())
	if k := 1 + r.Intn(5); den*k <= 1000000 {
		num, den = num*k, den*k
	}
	if r.Intn(4) == 0 {
		num += r.Intn(3) - 1
	}
	return num, den
}

// TestRawMany holds Raw against a second way.
func TestRawMany(t *testing.T) {
	r := rand.New(rand.NewSource(3))
	seen := map[api.Errno]int{}
	for range 50000 {
		s := random(r, 64)
		num, den := randomFraction(r, s)
		want, wantError := rawWant(s, num, den)
		seen[wantError]++
		if raw, e := Raw(s, num, den); raw != want || e != wantError {
			t.Fatalf("Raw(%+v, %d, %d): %d %d, want %d %d", s, num, den, raw, e, want, wantError)
		}
	}
	if min(seen[api.OK], seen[api.ErrForm], seen[api.ErrRange]) < 1000 {
		t.Errorf("one answer is too seldom: %v", seen)
	}
}

// TestWriteAndRead: what was written is read, and no other bit changes.
func TestWriteAndRead(t *testing.T) {
	r := rand.New(rand.NewSource(4))
	written := 0
	for range 50000 {
		n := 5 + r.Intn(60)
		s, data := random(r, n), randomData(r, n)
		num, den := randomFraction(r, s)
		wantRaw, wantError := rawWant(s, num, den)
		out, e := Write(s, data, num, den)
		if e != wantError {
			t.Fatalf("Write(%+v, %x, %d, %d): %d, want %d", s, data, num, den, e, wantError)
		}
		if e != api.OK {
			continue
		}
		written++
		raw, got, e := Read(s, out)
		lowest := big.NewRat(int64(num), int64(den))
		if raw != wantRaw || e != api.OK || int64(got.Num) != lowest.Num().Int64() || int64(got.Den) != lowest.Denom().Int64() {
			t.Fatalf("Write(%+v, %x, %d, %d): %x, of which is read %d %+v %d", s, data, num, den, out, raw, got, e)
		}
		checkOthers(t, s, data, out)
	}
	if written < 10000 {
		t.Errorf("only %d were written", written)
	}
}

// checkOthers: but for s's bits, data and out are the same.
func checkOthers(t *testing.T, s api.Signal, data, out []byte) {
	t.Helper()
	if len(out) != len(data) {
		t.Fatalf("%+v: %d bytes became %d", s, len(data), len(out))
	}
	changed := slices.Clone(data)
	for i := range changed {
		changed[i] ^= out[i]
	}
	for _, at := range walk(s) {
		changed[at/8] &^= 1 << (at % 8)
	}
	if slices.Max(changed) != 0 {
		t.Fatalf("%+v: of %x and %x the bits %x differ, too", s, data, out, changed)
	}
}

// TestReadAndWrite: to write what was read leaves the data as it was, if it isn't
// more than Raw takes.
func TestReadAndWrite(t *testing.T) {
	r := rand.New(rand.NewSource(5))
	written := 0
	for range 50000 {
		n := 5 + r.Intn(60)
		s, data := random(r, n), randomData(r, n)
		raw, got, _ := Read(s, data)
		out, e := Write(s, data, got.Num, got.Den)
		if got.Num < -1<<40 || got.Num > 1<<40 {
			if out != nil || e != api.ErrRange {
				t.Fatalf("Write(%+v, %+v): %x %d, want none, %d", s, got, out, e, api.ErrRange)
			}
			continue
		}
		written++
		if !bytes.Equal(out, data) || e != api.OK {
			t.Fatalf("Write(%+v, %x, %+v): %x %d, want it as it was (%d)", s, data, got, out, e, raw)
		}
	}
	if written < 10000 {
		t.Errorf("only %d were written", written)
	}
}
