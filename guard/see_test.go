package guard

import (
	"bytes"
	"math"
	"math/rand"
	"testing"

	"omnibus/api"
)

// checkSeen holds See against what it must tell.
func checkSeen(t *testing.T, g api.Guard, data []byte, most int, want api.Guard) {
	t.Helper()
	if out, e := See(g, data, most); out != want || e != api.OK {
		t.Errorf("See(%+v, %x, %d): %+v %d, want %+v", g, data, most, out, e, want)
	}
}

// checkSeeWrong: See must tell want, and nothing else.
func checkSeeWrong(t *testing.T, g api.Guard, data []byte, most int, want api.Errno) {
	t.Helper()
	if out, e := See(g, data, most); out != (api.Guard{}) || e != want {
		t.Errorf("See(%+v, %d bytes, %d): %+v %d, want none, %d", g, len(data), most, out, e, want)
	}
}

// badAfter is Bad behind each that may be, one more being wrong.
var badAfter = map[int]int{
	0:               1,
	1:               2,
	41:              42,
	999998:          999999,
	api.MaxTime - 1: api.MaxTime,
	api.MaxTime:     api.MaxTime,
	1000001:         api.MaxTime,
	math.MaxInt - 1: api.MaxTime,
	math.MaxInt:     api.MaxTime,
}

// states are all five, so that it is seen that none of them makes a difference.
var states = []int{api.Fresh, api.Good, api.Gap, api.Same, api.Broken}

// stateOf is what the document says of a counter, found by counting on from last.
func stateOf(last, counter, most int) int {
	if last == -1 {
		return api.Good
	}
	steps := 0
	for last != counter {
		if last++; last == 15 {
			last = 0
		}
		steps++
	}
	switch {
	case steps == 0:
		return api.Same
	case steps == 1:
		return api.Good
	case steps <= most:
		return api.Gap
	}
	return api.Broken
}

// behind is what See must tell of g, when the sum is right.
func behind(g api.Guard, counter, most int) api.Guard {
	out := api.Guard{Key: g.Key, Last: counter, State: stateOf(g.Last, counter, most)}
	switch out.State {
	case api.Same:
		out.Bad = g.Bad
	case api.Broken:
		out.Bad = badAfter[g.Bad]
	}
	return out
}

// TestSeeSome: each state by numbers that are written out.
func TestSeeSome(t *testing.T) {
	tests := []struct {
		last, bad, counter, most int
		want                     api.Guard
	}{
		{-1, 0, 0, 1, api.Guard{Last: 0, State: api.Good}},
		{-1, 9, 14, 1, api.Guard{Last: 14, State: api.Good}},
		{-1, 9, 7, 14, api.Guard{Last: 7, State: api.Good}},
		{3, 0, 4, 1, api.Guard{Last: 4, State: api.Good}},
		{3, 5, 4, 14, api.Guard{Last: 4, State: api.Good}},
		{14, 5, 0, 1, api.Guard{Last: 0, State: api.Good}},
		{14, 5, 0, 3, api.Guard{Last: 0, State: api.Good}},
		{3, 0, 3, 1, api.Guard{Last: 3, State: api.Same}},
		{3, 5, 3, 14, api.Guard{Last: 3, Bad: 5, State: api.Same}},
		{0, 5, 0, 1, api.Guard{Last: 0, Bad: 5, State: api.Same}},
		{14, 1000001, 14, 1, api.Guard{Last: 14, Bad: 1000001, State: api.Same}},
		{3, 5, 5, 2, api.Guard{Last: 5, State: api.Gap}},
		{3, 5, 6, 3, api.Guard{Last: 6, State: api.Gap}},
		{13, 5, 0, 2, api.Guard{Last: 0, State: api.Gap}},
		{14, 5, 1, 2, api.Guard{Last: 1, State: api.Gap}},
		{14, 5, 13, 14, api.Guard{Last: 13, State: api.Gap}},
		{1, 5, 0, 14, api.Guard{Last: 0, State: api.Gap}},
		{3, 5, 5, 1, api.Guard{Last: 5, Bad: 6, State: api.Broken}},
		{3, 5, 7, 3, api.Guard{Last: 7, Bad: 6, State: api.Broken}},
		{13, 0, 1, 2, api.Guard{Last: 1, Bad: 1, State: api.Broken}},
		{1, 0, 0, 13, api.Guard{Last: 0, Bad: 1, State: api.Broken}},
		{4, 1000000, 3, 13, api.Guard{Last: 3, Bad: 1000000, State: api.Broken}},
	}
	for _, x := range tests {
		x.want.Key = 4711
		for _, state := range states {
			g := api.Guard{Key: 4711, Last: x.last, Bad: x.bad, State: state}
			checkSeen(t, g, made(4711, x.counter, []byte{0, 0x90, 1, 2}), x.most, x.want)
		}
	}
}

// TestSeeAll: each counter behind each other one, with each most and each Bad.
func TestSeeAll(t *testing.T) {
	for counter := range 15 {
		data := made(258, counter, []byte{0, 0x60, 200})
		for last := -1; last <= 14; last++ {
			for most := 1; most <= 14; most++ {
				for bad := range badAfter {
					g := api.Guard{Key: 258, Last: last, Bad: bad, State: states[(counter+most)%5]}
					checkSeen(t, g, data, most, behind(g, counter, most))
				}
			}
		}
	}
}

// checkBroken: data that isn't to be trusted makes g Broken, with one more Bad,
// and changes nothing else, whatever g was.
func checkBroken(t *testing.T, key int, data []byte) {
	t.Helper()
	for last := -1; last <= 14; last++ {
		for bad, after := range badAfter {
			g := api.Guard{Key: key, Last: last, Bad: bad, State: states[(last+1)%5]}
			want := api.Guard{Key: key, Last: last, Bad: after, State: api.Broken}
			checkSeen(t, g, data, 1+(last+1)%14, want)
		}
	}
}

// TestSeeFifteen: no counter is 15, even if the sum is right.
func TestSeeFifteen(t *testing.T) {
	checkBroken(t, 65535, []byte{0x6C, 0xFF, 0xFF}) // a sum that is known
	for _, data := range someData()[:12] {
		for _, key := range someKeys {
			checkBroken(t, key, made(key, 15, data))
		}
	}
}

// TestSeeWrongSum: with each counter, each sum but one is wrong.
func TestSeeWrongSum(t *testing.T) {
	for counter := range 16 {
		right := made(77, counter, []byte{0, 0xC0, 5, 6})
		for first := range 256 {
			data := bytes.Clone(right)
			data[0] = byte(first)
			if data[0] != right[0] {
				checkBroken(t, 77, data)
			}
		}
	}
}

// TestSeeKeys: what was made under another key is Broken if its sum is another.
// By one bit, or by bits within one byte, keys always differ in the sum.
func TestSeeKeys(t *testing.T) {
	data := []byte{0, 0x30, 1}
	for _, key := range someKeys {
		for by := 1; by < 256; by++ {
			checkSeen(t, api.Guard{Key: key, Last: 3}, made(key^by, 4, data), 1, api.Guard{Key: key, Last: 3, Bad: 1, State: api.Broken})
			checkSeen(t, api.Guard{Key: key, Last: 3}, made(key^by<<8, 4, data), 1, api.Guard{Key: key, Last: 3, Bad: 1, State: api.Broken})
		}
		checkSeen(t, api.Guard{Key: key, Last: 3}, made(key, 4, data), 1, api.Guard{Key: key, Last: 4, State: api.Good})
	}
}

// TestSeeTurned: whichever bit of what Put made is turned, it is Broken, and so
// are bits within as many in a row as the sum has.
func TestSeeTurned(t *testing.T) {
	for i, data := range someData() {
		key := someKeys[i%len(someKeys)]
		for counter := range 15 {
			right := putOf(t, key, counter, data)
			g := api.Guard{Key: key, Last: (counter + 14) % 15, Bad: 3, State: api.Good}
			want := api.Guard{Key: key, Last: g.Last, Bad: 4, State: api.Broken}
			for bit := range 8 * len(right) {
				bad := bytes.Clone(right)
				bad[bit/8] ^= 128 >> (bit % 8)
				checkSeen(t, g, bad, 14, want)
			}
			for at := range right {
				bad := bytes.Clone(right)
				bad[at] ^= byte(1 + (at*37+counter)%255)
				checkSeen(t, g, bad, 14, want)
			}
		}
	}
}

func TestSeeWrong(t *testing.T) {
	right := made(9, 3, []byte{0, 0x20, 4})
	noMosts := []int{0, -1, 15, 16, 30, -14, 1 << 32, 1<<32 + 1, math.MinInt, math.MaxInt}
	for _, g := range rights() {
		for _, most := range noMosts {
			checkSeeWrong(t, g, right, most, api.ErrRange)
			checkSeeWrong(t, g, nil, most, api.ErrRange) // told ahead of the length
			checkSeeWrong(t, g, longs[0], most, api.ErrRange)
		}
		for most := 1; most <= 14; most++ {
			for _, data := range shorts {
				checkSeeWrong(t, g, data, most, api.ErrShort)
			}
			for _, data := range longs {
				checkSeeWrong(t, g, data, most, api.ErrMany)
			}
		}
	}
}

// TestSeeWrongGuard: Check's error comes ahead of all others.
func TestSeeWrongGuard(t *testing.T) {
	lengths := append(append([][]byte{made(9, 3, []byte{0, 0x20, 4})}, shorts...), longs...)
	for _, g := range []api.Guard{{Key: 9, Last: 2}, {Key: 9, Last: -1, Bad: 7, State: api.Broken}} {
		for _, x := range wrongs(g) {
			for _, data := range lengths {
				for _, most := range []int{0, 1, 14, 15} {
					checkSeeWrong(t, x, data, most, api.ErrRange)
				}
			}
		}
	}
}

// TestSeeLengths: two bytes, as many as may be, and all between.
func TestSeeLengths(t *testing.T) {
	for _, data := range someData() {
		for _, most := range []int{1, 14} {
			checkSeen(t, api.Guard{Key: 65535, Last: 11}, made(65535, 12, data), most, api.Guard{Key: 65535, Last: 12, State: api.Good})
		}
	}
}

// TestOneAfterTheOther: what Put made, one counter after the other, is Good, from
// whichever counter on, several times round.
func TestOneAfterTheOther(t *testing.T) {
	for i, key := range someKeys {
		for start := range 15 {
			g := api.Guard{Key: key, Last: -1, Bad: start}
			data := mixed(2+(i*5+start)%63, int64(start))
			for n := range 40 {
				counter := (start + n) % 15
				data[len(data)-1] ^= byte(n) // other data each time
				out, e := See(g, putOf(t, key, counter, data), 1+n%14)
				if want := (api.Guard{Key: key, Last: counter, State: api.Good}); out != want || e != api.OK {
					t.Fatalf("See(%+v), behind %d: %+v %d, want %+v", g, n, out, e, want)
				}
				g = out
			}
		}
	}
}

// TestStory: good and bad by turns, each step held against what is told of the
// one ahead.
func TestStory(t *testing.T) {
	const key = 513
	g := api.Guard{Key: key, Last: -1}
	step := func(data []byte, most int, want api.Guard) {
		t.Helper()
		want.Key = key
		checkSeen(t, g, data, most, want)
		g = want
	}
	of := func(counter int) []byte { return made(key, counter, []byte{0, 0xF0, 9}) }
	spoilt := []byte{of(4)[0] ^ 1, of(4)[1], 9}
	step(spoilt, 1, api.Guard{Last: -1, Bad: 1, State: api.Broken})
	step(of(15), 1, api.Guard{Last: -1, Bad: 2, State: api.Broken})
	step(of(12), 1, api.Guard{Last: 12, Bad: 0, State: api.Good})
	step(of(13), 1, api.Guard{Last: 13, Bad: 0, State: api.Good})
	step(of(0), 2, api.Guard{Last: 0, Bad: 0, State: api.Gap})
	step(of(5), 4, api.Guard{Last: 5, Bad: 1, State: api.Broken})
	step(spoilt, 4, api.Guard{Last: 5, Bad: 2, State: api.Broken})
	step(of(5), 4, api.Guard{Last: 5, Bad: 2, State: api.Same})
	step(of(4), 13, api.Guard{Last: 4, Bad: 3, State: api.Broken})
	step(of(4), 13, api.Guard{Last: 4, Bad: 3, State: api.Same})
	step(of(3), 14, api.Guard{Last: 3, Bad: 0, State: api.Gap})
	step(of(3), 14, api.Guard{Last: 3, Bad: 0, State: api.Same})
}

// TestSeeWhatever: whatever data comes, See tells what is worked out again here.
func TestSeeWhatever(t *testing.T) {
	r := rand.New(rand.NewSource(12))
	bads := []int{0, 1, 41, api.MaxTime - 1, api.MaxTime, math.MaxInt}
	for range 60000 {
		g := api.Guard{Key: r.Intn(65536), Last: r.Intn(16) - 1, Bad: bads[r.Intn(len(bads))], State: r.Intn(5)}
		data := make([]byte, 2+r.Intn(5))
		r.Read(data)
		counter, most := int(data[1]%16), 1+r.Intn(14)
		if r.Intn(2) == 0 {
			data = made(g.Key, counter, data)
		}
		want := behind(g, counter%15, most)
		if counter == 15 || data[0] != made(g.Key, counter, data)[0] {
			want = api.Guard{Key: g.Key, Last: g.Last, Bad: badAfter[g.Bad], State: api.Broken}
		}
		checkSeen(t, g, data, most, want)
	}
}
