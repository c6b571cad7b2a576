package part

import (
	"bytes"
	"math"
	"math/rand"
	"testing"

	"omnibus/api"
)

func sameGetter(a, b api.Getter) bool {
	return bytes.Equal(a.Data, b.Data) && a.Want == b.Want && a.Next == b.Next && a.Block == b.Block && a.Left == b.Left
}

// zeroGetter: is g zero, its list not even an empty one?
func zeroGetter(g api.Getter) bool { return g.Data == nil && sameGetter(g, api.Getter{}) }

// checkGot holds Get against what it must tell, and against CheckGetter.
func checkGot(t *testing.T, g api.Getter, p []byte, want api.Getter, wantAnswer, wantWhole []byte) {
	t.Helper()
	out, answer, whole, e := Get(g, p)
	if !sameGetter(out, want) || !bytes.Equal(answer, wantAnswer) || !bytes.Equal(whole, wantWhole) || e != api.OK {
		t.Fatalf("Get(%+v, %x): %+v %x %x %d, want %+v %x %x", g, p, out, answer, whole, e, want, wantAnswer, wantWhole)
	}
	if e := CheckGetter(out); e != api.OK {
		t.Fatalf("CheckGetter(%+v): %d", out, e)
	}
}

// checkGetWrong: Get must tell want, and nothing else.
func checkGetWrong(t *testing.T, g api.Getter, p []byte, want api.Errno) {
	t.Helper()
	out, answer, whole, e := Get(g, p)
	if !zeroGetter(out) || answer != nil || whole != nil || e != want {
		t.Fatalf("Get(%+v, %x): %+v %x %x %d, want none, %d", g, p, out, answer, whole, e, want)
	}
}

// someBlocks are how many may be let through at a time.
var someBlocks = []int{0, 1, 2, 3, 15, 16, 254, 255}

// amid is a getter of data that has all of a place.
func amid(data []byte, p place, block, left int) api.Getter {
	return api.Getter{Want: len(data), Data: data[:p.at:p.at], Next: p.next, Block: block, Left: left}
}

// idles are getters with nothing under way.
func idles() []api.Getter {
	l := []api.Getter{{Data: []byte{}}}
	for _, block := range someBlocks {
		l = append(l, api.Getter{Block: block})
	}
	return l
}

// busy are getters that wait for a next part, all that may be for some lengths.
func busy() []api.Getter {
	var l []api.Getter
	for _, n := range []int{8, 13, 14, 20, 118, 119, 300} {
		data, places := mixed(n, int64(n)), placesOf(n)
		for _, p := range places[:len(places)-1] {
			l = append(l, amid(data, p, 0, 0), amid(data, p, 1, 1), amid(data, p, 2, 1), amid(data, p, 2, 2), amid(data, p, 255, 1), amid(data, p, 255, 2), amid(data, p, 255, 255))
		}
	}
	return l
}

// TestCheckGetterKnown: getters that are written out.
func TestCheckGetterKnown(t *testing.T) {
	tests := []struct {
		want, has, next, block, left int
		e                            api.Errno
	}{
		{0, 0, 0, 0, 0, api.OK},
		{0, 0, 0, 255, 0, api.OK},
		{0, 1, 0, 0, 0, api.ErrForm}, // something is left, and nothing under way
		{0, 6, 0, 0, 0, api.ErrForm},
		{0, 0, 1, 0, 0, api.ErrForm},
		{0, 0, 0, 1, 1, api.ErrForm},
		{0, 6, 1, 2, 2, api.ErrForm},
		{1, 0, 0, 0, 0, api.ErrForm}, // Want below 8
		{7, 6, 1, 0, 0, api.ErrForm},
		{7, 0, 0, 0, 0, api.ErrForm},
		{8, 6, 1, 0, 0, api.OK},
		{8, 6, 1, 255, 255, api.OK},
		{8, 6, 1, 255, 1, api.OK},
		{8, 6, 1, 255, 0, api.ErrForm}, // Left 0, and Block isn't
		{8, 6, 1, 1, 0, api.ErrForm},
		{8, 6, 0, 0, 0, api.ErrForm},
		{8, 6, 2, 0, 0, api.ErrForm},
		{8, 0, 0, 0, 0, api.ErrForm},
		{8, 5, 1, 0, 0, api.ErrForm},
		{8, 7, 1, 0, 0, api.ErrForm},
		{8, 7, 2, 0, 0, api.ErrForm},
		{8, 8, 2, 0, 0, api.ErrForm},
		{8, 13, 2, 0, 0, api.ErrForm},
		{13, 13, 2, 0, 0, api.ErrForm}, // as much as Want
		{14, 13, 2, 0, 0, api.OK},
		{14, 13, 1, 0, 0, api.ErrForm},
		{14, 14, 3, 0, 0, api.ErrForm},
		{119, 104, 15, 3, 2, api.OK},
		{119, 111, 0, 3, 2, api.OK},
		{119, 118, 1, 3, 2, api.OK},
		{300, 293, 10, 0, 0, api.OK},
		{-1, 0, 0, 0, 0, api.ErrRange},
		{301, 6, 1, 0, 0, api.ErrRange},
		{301, 300, 1, 0, 0, api.ErrRange},
		{8, 6, 1, -1, 0, api.ErrRange},
		{8, 6, 1, -1, -1, api.ErrRange},
		{8, 6, 1, 256, 1, api.ErrRange},
		{8, 6, 1, 1, -1, api.ErrRange},
		{8, 6, 1, 1, 2, api.ErrRange},
		{8, 6, 1, 0, 1, api.ErrRange},
		{8, 6, -1, 0, 0, api.ErrRange},
		{8, 6, 16, 0, 0, api.ErrRange},
		{0, 0, 0, 0, 1, api.ErrRange},
		{0, 9, 16, 0, 0, api.ErrRange}, // ahead of ErrForm
		{7, 9, 0, 256, 0, api.ErrRange},
	}
	for _, x := range tests {
		g := api.Getter{Want: x.want, Data: counted(x.has), Next: x.next, Block: x.block, Left: x.left}
		if e := CheckGetter(g); e != x.e {
			t.Errorf("CheckGetter of %+v: %d, want %d", x, e, x.e)
		}
	}
}

// getterError is what CheckGetter must tell of g, found among all places.
func getterError(g api.Getter) api.Errno {
	if g.Want < 0 || g.Want > api.MaxMessage || g.Block < 0 || g.Block > 255 || g.Left < 0 || g.Left > g.Block || g.Next < 0 || g.Next > 15 {
		return api.ErrRange
	}
	if g.Want == 0 && len(g.Data) == 0 && g.Next == 0 && g.Left == 0 {
		return api.OK
	}
	for _, p := range placesOf(g.Want) {
		if p == (place{len(g.Data), g.Next}) && p.at < g.Want && (g.Block == 0 || g.Left > 0) {
			return api.OK
		}
	}
	return api.ErrForm
}

// TestCheckGetter: each amount of Data with each Next, Block and Left about their
// bounds.
func TestCheckGetter(t *testing.T) {
	far := []int{math.MinInt, math.MaxInt, 1 << 32, 1<<32 + 8, -1 << 32}
	blocks := [][2]int{{0, 0}, {0, 1}, {0, -1}, {1, 0}, {1, 1}, {1, 2}, {1, -1}, {2, 1}, {2, 2}, {2, 3}, {255, 0}, {255, 1}, {255, 255}, {255, 256}, {256, 1}, {256, 256}, {-1, -1}, {-1, 0}, {-1, -2}, {math.MaxInt, 1}, {math.MinInt, math.MinInt}, {255, math.MaxInt}, {255, math.MinInt}}
	for _, want := range append([]int{-2, -1, 0, 1, 2, 6, 7, 8, 9, 12, 13, 14, 20, 21, 118, 119, 299, 300, 301, 302}, far...) {
		for has := range 305 {
			data := counted(has)
			for next := -1; next <= 16; next++ {
				for _, b := range blocks {
					g := api.Getter{Want: want, Data: data, Next: next, Block: b[0], Left: b[1]}
					if e, should := CheckGetter(g), getterError(g); e != should {
						t.Fatalf("CheckGetter(%+v): %d, want %d", g, e, should)
					}
				}
			}
		}
	}
	for _, next := range far {
		if e := CheckGetter(api.Getter{Want: 8, Data: counted(6), Next: next}); e != api.ErrRange {
			t.Errorf("CheckGetter with Next %d: %d", next, e)
		}
	}
}

// wrongGetters are some of each of CheckGetter's errors.
func wrongGetters() []api.Getter {
	return []api.Getter{
		{Want: -1},
		{Want: 301, Data: counted(6), Next: 1},
		{Block: -1},
		{Block: 256},
		{Want: 8, Data: counted(6), Next: 1, Block: 256, Left: 1},
		{Want: 8, Data: counted(6), Next: 1, Block: 2, Left: 3},
		{Want: 8, Data: counted(6), Next: 1, Block: 2, Left: -1},
		{Want: 8, Data: counted(6), Next: 16},
		{Want: 8, Data: counted(6), Next: -1},
		{Data: counted(1)},
		{Next: 1},
		{Block: 1, Left: 1},
		{Want: 7, Data: counted(6), Next: 1},
		{Want: 1},
		{Want: 8},
		{Want: 8, Data: counted(7), Next: 1},
		{Want: 13, Data: counted(13), Next: 2},
		{Want: 8, Data: counted(6), Next: 2},
		{Want: 8, Data: counted(6), Next: 1, Block: 2},
	}
}

// someParts are parts of each kind, right, wrong, and of all lengths.
func someParts() [][]byte {
	l := [][]byte{nil, {}}
	for _, first := range []byte{0, 1, 2, 7, 8, 15, 0x10, 0x11, 0x1F, 0x20, 0x21, 0x22, 0x2F, 0x30, 0x31, 0x32, 0x3F, 0x40, 0x80, 0xF0, 0xFF} {
		for n := range 10 {
			l = append(l, joined([]byte{first}, mixed(n, int64(first))))
		}
		l = append(l, joined([]byte{first}, counted(500)))
	}
	return append(l, []byte{0x10, 8, 1, 2, 3, 4, 5, 6}, []byte{0x10, 7, 1, 2, 3, 4, 5, 6}, []byte{0x11, 44, 1, 2, 3, 4, 5, 6}, []byte{0x11, 45, 1, 2, 3, 4, 5, 6})
}

// TestGetGetterFirst: CheckGetter's error is told ahead of all others.
func TestGetGetterFirst(t *testing.T) {
	parts := someParts()
	for _, g := range wrongGetters() {
		want := getterError(g)
		if want == api.OK {
			t.Fatalf("%+v isn't wrong", g)
		}
		for _, p := range parts {
			checkGetWrong(t, g, p, want)
		}
	}
}

// TestGetLength: no bytes, and more than eight, whatever the kind.
func TestGetLength(t *testing.T) {
	for _, g := range append(idles(), busy()...) {
		checkGetWrong(t, g, nil, api.ErrShort)
		checkGetWrong(t, g, []byte{}, api.ErrShort)
		for first := range 256 {
			checkGetWrong(t, g, joined([]byte{byte(first)}, counted(8)), api.ErrMany)
		}
		checkGetWrong(t, g, counted(5000), api.ErrMany)
	}
}

// TestGetOne: each number that it may say, with each that there may be.
func TestGetOne(t *testing.T) {
	for _, g := range append(idles(), busy()...) {
		for says := range 16 {
			for n := range 8 {
				data := counted(n)
				p := joined([]byte{byte(says)}, data)
				if says == n && n > 0 {
					checkGot(t, g, p, api.Getter{Block: g.Block}, nil, data)
				} else {
					checkGetWrong(t, g, p, api.ErrForm)
				}
			}
		}
	}
}

// TestGetFirst: each number that it may say.
func TestGetFirst(t *testing.T) {
	for _, g := range append(idles(), amid(counted(8), place{6, 1}, 0, 0), amid(counted(300), place{111, 0}, 255, 3), amid(counted(14), place{13, 2}, 2, 1)) {
		for says := range 4096 {
			data := mixed(6, int64(says))
			p := joined([]byte{byte(16 + says/256), byte(says % 256)}, data)
			switch {
			case says < 8:
				checkGetWrong(t, g, p, api.ErrForm)
			case says <= 300:
				want := api.Getter{Want: says, Data: data, Next: 1, Block: g.Block, Left: g.Block}
				checkGot(t, g, p, want, []byte{0x30, byte(g.Block), 0}, nil)
			default:
				checkGot(t, g, p, api.Getter{Block: g.Block}, []byte{0x32, 0, 0}, nil)
			}
		}
	}
}

// TestGetFirstBusy: whatever was under way, it begins anew; with too few bytes it
// doesn't, whatever they say.
func TestGetFirstBusy(t *testing.T) {
	for _, g := range append(idles(), busy()...) {
		b := g.Block
		for _, says := range [][]byte{{0x10, 7}, {0x10, 8}, {0x11, 44}, {0x11, 45}, {0x1F, 255}} {
			for n := range 6 {
				checkGetWrong(t, g, joined(says, counted(n)), api.ErrForm)
			}
			checkGetWrong(t, g, says[:1], api.ErrForm)
		}
		checkGetWrong(t, g, []byte{0x10, 0, 1, 2, 3, 4, 5, 6}, api.ErrForm)
		checkGetWrong(t, g, []byte{0x10, 7, 1, 2, 3, 4, 5, 6}, api.ErrForm)
		six := []byte{1, 2, 3, 4, 5, 6}
		checkGot(t, g, []byte{0x10, 8, 1, 2, 3, 4, 5, 6}, api.Getter{Want: 8, Data: six, Next: 1, Block: b, Left: b}, []byte{0x30, byte(b), 0}, nil)
		checkGot(t, g, []byte{0x11, 44, 1, 2, 3, 4, 5, 6}, api.Getter{Want: 300, Data: six, Next: 1, Block: b, Left: b}, []byte{0x30, byte(b), 0}, nil)
		checkGot(t, g, []byte{0x11, 45, 1, 2, 3, 4, 5, 6}, api.Getter{Block: b}, []byte{0x32, 0, 0}, nil)
		checkGot(t, g, []byte{0x1F, 255, 1, 2, 3, 4, 5, 6}, api.Getter{Block: b}, []byte{0x32, 0, 0}, nil)
	}
}

// TestGetNextLate: none is under way, whatever its number and length.
func TestGetNextLate(t *testing.T) {
	for _, g := range idles() {
		for number := range 16 {
			for n := range 8 {
				checkGetWrong(t, g, joined([]byte{byte(32 + number)}, counted(n)), api.ErrLate)
			}
		}
	}
}

// TestGetNextWrong: each other number, told ahead of the length, and each other
// length.
func TestGetNextWrong(t *testing.T) {
	for _, g := range busy() {
		right := min(7, g.Want-len(g.Data))
		for number := range 16 {
			for n := range 8 {
				p := joined([]byte{byte(32 + number)}, counted(n))
				switch {
				case number != g.Next:
					checkGetWrong(t, g, p, api.ErrLost)
				case n != right:
					checkGetWrong(t, g, p, api.ErrForm)
				}
			}
		}
	}
}

// TestGetNextKnown: what Next and Left become, and what the last part leaves.
func TestGetNextKnown(t *testing.T) {
	seven := counted(7)
	tests := []struct {
		g            api.Getter
		head         byte
		n            int
		next, left   int // behind it, when it isn't whole
		answer       []byte
		wholeByThese bool
	}{
		{amid(counted(20), place{6, 1}, 0, 0), 0x21, 7, 2, 0, nil, false},
		{amid(counted(20), place{6, 1}, 1, 1), 0x21, 7, 2, 1, []byte{0x30, 1, 0}, false},
		{amid(counted(20), place{6, 1}, 2, 2), 0x21, 7, 2, 1, nil, false},
		{amid(counted(20), place{6, 1}, 2, 1), 0x21, 7, 2, 2, []byte{0x30, 2, 0}, false},
		{amid(counted(20), place{6, 1}, 255, 255), 0x21, 7, 2, 254, nil, false},
		{amid(counted(20), place{6, 1}, 255, 1), 0x21, 7, 2, 255, []byte{0x30, 255, 0}, false},
		{amid(counted(119), place{104, 15}, 5, 3), 0x2F, 7, 0, 2, nil, false},
		{amid(counted(119), place{111, 0}, 5, 1), 0x20, 7, 1, 5, []byte{0x30, 5, 0}, false},
		{amid(counted(119), place{118, 1}, 5, 1), 0x21, 1, 0, 0, nil, true},
		{amid(counted(20), place{13, 2}, 0, 0), 0x22, 7, 0, 0, nil, true},
		{amid(counted(20), place{13, 2}, 1, 1), 0x22, 7, 0, 0, nil, true},
		{amid(counted(20), place{13, 2}, 255, 7), 0x22, 7, 0, 0, nil, true},
		{amid(counted(8), place{6, 1}, 1, 1), 0x21, 2, 0, 0, nil, true},
		{amid(counted(14), place{13, 2}, 2, 1), 0x22, 1, 0, 0, nil, true},
	}
	for _, x := range tests {
		data := joined(x.g.Data, seven[:x.n])
		p := joined([]byte{x.head}, seven[:x.n])
		if x.wholeByThese {
			checkGot(t, x.g, p, api.Getter{Block: x.g.Block}, nil, data)
			continue
		}
		want := api.Getter{Want: x.g.Want, Data: data, Next: x.next, Block: x.g.Block, Left: x.left}
		checkGot(t, x.g, p, want, x.answer, nil)
	}
}

// TestGetAll: all parts of a message, each answer where it must be.
func TestGetAll(t *testing.T) {
	for _, n := range edges {
		data := mixed(n, int64(n))
		places, parts := placesOf(n), partsOf(data)
		for block := range 256 {
			g := api.Getter{Block: block}
			for i, p := range parts {
				var want api.Getter
				var answer, whole []byte
				if i == len(parts)-1 {
					want, whole = api.Getter{Block: block}, data
				} else {
					want = amid(data, places[i], block, 0)
					if block != 0 {
						want.Left = block - i%block
					}
					if i == 0 || block != 0 && i%block == 0 {
						answer = []byte{0x30, byte(block), 0}
					}
				}
				checkGot(t, g, p, want, answer, whole)
				g = want
			}
		}
	}
}

// TestGetWho: all other kinds, whatever is under way, and whatever their length.
func TestGetWho(t *testing.T) {
	for _, g := range append(idles(), busy()...) {
		for first := 0x30; first < 256; first++ {
			for n := range 8 {
				checkGetWrong(t, g, joined([]byte{byte(first)}, counted(n)), api.ErrWho)
			}
		}
	}
}

// got is what Get must tell, worked out again.
func got(g api.Getter, p []byte) (out api.Getter, answer, whole []byte, e api.Errno) {
	none := api.Getter{}
	free := api.Getter{Block: g.Block}
	if e := getterError(g); e != api.OK {
		return none, nil, nil, e
	}
	if len(p) == 0 {
		return none, nil, nil, api.ErrShort
	}
	if len(p) > 8 {
		return none, nil, nil, api.ErrMany
	}
	kind, low, rest := p[0]/16, int(p[0]%16), p[1:]
	if kind > 2 {
		return none, nil, nil, api.ErrWho
	}
	if kind == 0 {
		if low == 0 || low > 7 || low != len(rest) {
			return none, nil, nil, api.ErrForm
		}
		return free, nil, rest, api.OK
	}
	if kind == 1 {
		if len(rest) != 7 || low == 0 && rest[0] < 8 {
			return none, nil, nil, api.ErrForm
		}
		if size := low*256 + int(rest[0]); size <= 300 {
			return api.Getter{Want: size, Data: rest[1:], Next: 1, Block: g.Block, Left: g.Block}, []byte{0x30, byte(g.Block), 0}, nil, api.OK
		}
		return free, []byte{0x32, 0, 0}, nil, api.OK
	}
	if g.Want == 0 {
		return none, nil, nil, api.ErrLate
	}
	if low != g.Next {
		return none, nil, nil, api.ErrLost
	}
	data := joined(g.Data, rest)
	if len(data) > g.Want || len(data) < g.Want && len(rest) < 7 {
		return none, nil, nil, api.ErrForm
	}
	if len(data) == g.Want {
		return free, nil, data, api.OK
	}
	out = api.Getter{Want: g.Want, Data: data, Next: (low + 1) % 16, Block: g.Block, Left: g.Left}
	if out.Left > 1 {
		out.Left--
	} else if out.Left == 1 {
		out.Left, answer = g.Block, []byte{0x30, byte(g.Block), 0}
	}
	return out, answer, nil, api.OK
}

// somePart is a part that often fits g.
func somePart(r *rand.Rand, g api.Getter) []byte {
	p := make([]byte, r.Intn(10))
	r.Read(p)
	if len(p) == 0 {
		return p
	}
	switch r.Intn(5) {
	case 0:
		p[0] = byte(r.Intn(9))
	case 1:
		p[0] = byte(0x10 + r.Intn(2))
	case 2, 3:
		p = make([]byte, 1+max(0, min(7, g.Want-len(g.Data))))
		r.Read(p)
		p[0] = byte(0x20 + g.Next)
	}
	return p
}

// TestGetWhatever: whatever comes, one part after the other, Get tells what is
// worked out again here.
func TestGetWhatever(t *testing.T) {
	r := rand.New(rand.NewSource(13))
	wrongs := wrongGetters()
	for range 3000 {
		g := api.Getter{Block: someBlocks[r.Intn(len(someBlocks))]}
		if r.Intn(50) == 0 {
			g = wrongs[r.Intn(len(wrongs))]
		}
		for range 60 {
			p := somePart(r, g)
			want, wantAnswer, wantWhole, wantError := got(g, p)
			if wantError != api.OK {
				checkGetWrong(t, g, p, wantError)
				continue
			}
			checkGot(t, g, p, want, wantAnswer, wantWhole)
			g = want
		}
	}
}

// TestGetterMemory: nothing that is handed in is changed, and what is answered
// shares nothing with it, or with itself.
func TestGetterMemory(t *testing.T) {
	parts := someParts()
	for _, g := range append(append(idles(), busy()...), wrongGetters()...) {
		g.Data = roomy(g.Data)
		right := joined([]byte{byte(0x20 + g.Next)}, counted(max(0, min(7, g.Want-len(g.Data)))))
		for _, p := range append(parts, right) {
			p = roomy(p)
			sameData, samePart := kept(t, "Get", g.Data), kept(t, "Get", p)
			out, answer, whole, _ := Get(g, p)
			CheckGetter(g)
			sameData()
			samePart()
			checkApart(t, "Get", out.Data, answer, whole, g.Data, p)
		}
	}
}
