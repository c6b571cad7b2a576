package wire

import (
	"math"
	"slices"
	"testing"

	"omnibus/api"
	"omnibus/frame"
)

// noisy is one or two frames of each kind.
func noisy() []api.Frame {
	return []api.Frame{
		short(0),
		short(5),
		short(api.MaxID, mixed(8, 6)...),
		remote(short(31), 8),
		long(api.MaxLong, 0xFF),
		long(alternatingLong, mixed(8, 7)...),
		remote(long(0), 0),
		fast(short(3)),
		fast(short(1, mixed(16, 8)...)),
		fast(long(alternatingLong, mixed(20, 9)...)),
		fast(long(0, make([]byte, 64)...)),
	}
}

// flipped is b with the bits at these places turned, by another way: by how
// often each is named.
func flipped(b string, at []int) string {
	times := map[int]int{}
	for _, i := range at {
		times[i]++
	}
	out := ""
	for i, r := range b {
		if times[i]%2 == 1 {
			r = '0' + '1' - r
		}
		out += string(r)
	}
	return out
}

// alike is n times the same place.
func alike(at, n int) []int { return slices.Repeat([]int{at}, n) }

// span is the places from one on to ahead of another.
func span(from, to int) []int {
	var l []int
	for i := from; i < to; i++ {
		l = append(l, i)
	}
	return l
}

// apart is where two rows differ, as far as the second one goes.
func apart(a, b string) []int {
	var l []int
	for i := range len(b) {
		if a[i] != b[i] {
			l = append(l, i)
		}
	}
	return l
}

// TestNoNoise: what is sent is what is read, also when all is turned back.
func TestNoNoise(t *testing.T) {
	for _, f := range append(pool(), noisy()...) {
		n := len(bitsOf(t, f))
		for _, at := range [][]int{nil, {}, {0, 0}, {n - 1, 3, n - 1, 3}, alike(7, api.MaxBits), append(span(0, n), span(0, n)...)} {
			if len(at) > api.MaxBits {
				continue
			}
			if g, e := Noise(f, at); !frame.Same(g, f) || e != api.OK {
				t.Fatalf("Noise(%+v, %v): %+v, %d", f, at, g, e)
			}
		}
	}
}

func TestNoise(t *testing.T) {
	f := short(5) // 00000 1 0000 101 0 0 0 0000 and one put in among them, the sum, ten
	n := len(bitsOf(t, f))
	tests := []struct {
		what string
		at   []int
		e    api.Errno
	}{
		{"the first bit", []int{0}, api.ErrForm},
		{"the first bit, three times", []int{0, 0, 0}, api.ErrForm},
		{"a bit that was put in", []int{5}, api.ErrStuff},
		{"a bit of the number", []int{10}, api.ErrStuff},
		{"another bit of the number", []int{11}, api.ErrCheck},
		{"the last bit", []int{n - 1}, api.ErrForm},
		{"the first of the last ten", []int{n - 10}, api.ErrForm},
		{"the bit that others turn", []int{n - 9}, api.OK},
		{"the bit that others turn, and back", []int{n - 9, n - 9}, api.OK},
		{"the bit behind it", []int{n - 8}, api.ErrForm},
		{"the first of two errors on the bus", []int{n - 1, 5}, api.ErrStuff},
		{"as many places as may be", alike(0, api.MaxBits), api.OK},
		{"one less", alike(0, api.MaxBits-1), api.ErrForm},
	}
	for _, x := range tests {
		want := api.Frame{}
		if x.e == api.OK {
			want = f
		}
		if g, e := Noise(f, x.at); !frame.Same(g, want) || e != x.e {
			t.Errorf("%s: %+v, %d, want %+v, %d", x.what, g, e, want, x.e)
		}
	}
}

// TestNoiseTold: each bit, and some together, against Read of the row.
func TestNoiseTold(t *testing.T) {
	for _, f := range noisy() {
		b := bitsOf(t, f)
		for i := range len(b) {
			for _, at := range [][]int{{i}, {i, i}, {i, i, i}, {i, 0, i}, {0, i}, {i, len(b) - 1 - i, 6}, span(i, len(b)), span(0, i)} {
				want, _, wantE := frame.Read(flipped(b, at))
				if g, e := Noise(f, at); !frame.Same(g, want) || e != wantE {
					t.Fatalf("Noise(%+v, %v): %+v, %d, want %+v, %d", f, at, g, e, want, wantE)
				}
			}
		}
	}
}

// TestNoiseMakesAnother: with the bits turned by which it differs, another frame
// is read, be it a shorter one.
func TestNoiseMakesAnother(t *testing.T) {
	met := 0
	for _, f := range noisy() {
		for _, g := range pool() {
			a, b := bitsOf(t, f), bitsOf(t, g)
			if len(b) > len(a) {
				continue
			}
			met++
			if got, e := Noise(f, apart(a, b)); !frame.Same(got, g) || e != api.OK {
				t.Fatalf("Noise(%+v), turned to %+v: %+v, %d", f, g, got, e)
			}
		}
	}
	if met < 1000 {
		t.Errorf("only %d were met", met)
	}
}

func TestWrongNoise(t *testing.T) {
	f := short(5)
	n := len(bitsOf(t, f))
	long := fast(short(5, mixed(64, 1)...))
	tests := []struct {
		what string
		f    api.Frame
		at   []int
		e    api.Errno
	}{
		{"a wrong frame", noRange, nil, api.ErrRange},
		{"a frame of a wrong form", noForm, []int{0}, api.ErrForm},
		{"a wrong frame, and too many places", noForm, make([]int, api.MaxBits+1), api.ErrForm},
		{"a wrong frame, and no such place", noMany, []int{-1}, api.ErrMany},
		{"one place too many", f, make([]int, api.MaxBits+1), api.ErrMany},
		{"far too many places", f, make([]int, 100000), api.ErrMany},
		{"too many places, none of which is there", f, alike(-1, api.MaxBits+1), api.ErrMany},
		{"as many as may be, the last one not there", f, append(make([]int, api.MaxBits-1), n), api.ErrRange},
		{"one more than the last", f, []int{n}, api.ErrRange},
		{"-1", f, []int{-1}, api.ErrRange},
		{"the least", f, []int{math.MinInt}, api.ErrRange},
		{"the greatest", f, []int{math.MaxInt}, api.ErrRange},
		{"a bit of a row, but not of this one", f, []int{api.MaxBits - 1}, api.ErrRange},
		{"of no frame", f, []int{api.MaxBits}, api.ErrRange},
		{"twice, as if it were turned back", f, []int{n, n}, api.ErrRange},
		{"behind one that is there", f, []int{0, 1, n}, api.ErrRange},
		{"ahead of some that are there", f, []int{-1, 0, 1}, api.ErrRange},
		{"one more than the last of a long one", long, []int{len(bitsOf(t, long))}, api.ErrRange},
	}
	for _, x := range tests {
		if g, e := Noise(x.f, x.at); !frame.Same(g, api.Frame{}) || e != x.e {
			t.Errorf("%s: %+v, %d, want none, %d", x.what, g, e, x.e)
		}
	}
}

// TestOnlyRead: neither the lists nor the room behind them are changed.
func TestOnlyRead(t *testing.T) {
	data := mixed(20, 2)
	frames := []api.Frame{short(6, 1), {ID: 5, Data: data[:8]}, remote(long(9), 4), short(1), short(2)}
	places := []int{3, 9, 3, 11, 12}
	wasData, wasFrames, wasPlaces := slices.Clone(data), slices.Clone(frames), slices.Clone(places)
	Send(frames[:3])
	First(frames[:3])
	Noise(frames[1], places[:3])
	if !slices.Equal(data, wasData) || !slices.Equal(places, wasPlaces) || !slices.EqualFunc(frames, wasFrames, frame.Same) {
		t.Errorf("%v, %v, %+v: something was changed", data, places, frames)
	}
}

// TestNewMemory: what is answered can be changed without harm.
func TestNewMemory(t *testing.T) {
	f := short(5, 1, 2, 3)
	g, e := Noise(f, nil)
	if e != api.OK || len(g.Data) != 3 {
		t.Fatalf("Noise(%+v): %+v, %d", f, g, e)
	}
	g.Data[0] = 99
	if f.Data[0] != 1 {
		t.Errorf("Noise answered the data that it was given")
	}
	l := []api.Frame{short(6), f}
	_, _, lost, _ := Send(l)
	lost[0], lost[1] = 99, 99
	if _, _, again, _ := Send(l); !slices.Equal(again, []int{11, -1}) {
		t.Errorf("Send answered %v, which was changed before", again)
	}
}
