package health

import (
	"fmt"
	"math"
	"slices"
	"testing"

	"omnibus/api"
)

// kinds are all happenings, in their order.
var kinds = []int{api.SentWell, api.GotWell, api.SentBad, api.GotBad, api.GotWorse, api.Rested}

// noKinds are numbers of which there is no happening.
var noKinds = []int{0, -1, 7, 8, -6, 1 << 32, 1<<32 + 1, math.MinInt, math.MaxInt}

// of is a health by its three numbers.
func of(sent, got, rest int) api.Health { return api.Health{Sent: sent, Got: got, Rest: rest} }

// times is n times the same.
func times(n, kind int) []int { return slices.Repeat([]int{kind}, n) }

// wrongs are healths that may not be.
var wrongs = []api.Health{
	of(-1, 0, 0), of(257, 0, 0), of(258, 0, 0), of(-1, 255, 0), of(257, 255, 0),
	of(math.MinInt, 0, 0), of(math.MaxInt, 0, 0),
	of(0, -1, 0), of(0, 256, 0), of(256, -1, 0), of(256, 256, 0), of(255, 256, 0), of(256, -1, 127),
	of(0, math.MinInt, 0), of(0, math.MaxInt, 0),
	of(0, 0, -1), of(255, 0, -1), of(256, 0, -1), of(256, 0, 128), of(256, 255, 129), of(255, 255, 128),
	of(256, 0, math.MinInt), of(256, 0, math.MaxInt),
	of(0, 0, 1), of(128, 0, 1), of(255, 0, 1), of(255, 0, 127), of(0, 255, 1), of(255, 255, 127),
	of(257, 0, 1), of(257, 0, 127), of(-1, -1, -1), of(257, 256, 128),
	of(math.MinInt, math.MinInt, math.MinInt), of(math.MaxInt, math.MaxInt, math.MaxInt),
}

// rights are healths that may be, and their states.
var rights = []struct {
	h     api.Health
	state int
}{
	{of(0, 0, 0), api.Active},
	{of(1, 0, 0), api.Active},
	{of(0, 1, 0), api.Active},
	{of(96, 96, 0), api.Active},
	{of(0, 126, 0), api.Active},
	{of(127, 0, 0), api.Active},
	{of(0, 127, 0), api.Active},
	{of(127, 127, 0), api.Active}, // together they are above 127, but neither is
	{of(128, 0, 0), api.Passive},
	{of(0, 128, 0), api.Passive},
	{of(128, 127, 0), api.Passive},
	{of(127, 128, 0), api.Passive},
	{of(128, 128, 0), api.Passive},
	{of(248, 0, 0), api.Passive},
	{of(249, 247, 0), api.Passive},
	{of(0, 248, 0), api.Passive},
	{of(255, 0, 0), api.Passive},
	{of(0, 255, 0), api.Passive},
	{of(255, 255, 0), api.Passive},
	{of(256, 0, 0), api.Off},
	{of(256, 127, 0), api.Off},
	{of(256, 128, 0), api.Off},
	{of(256, 255, 0), api.Off},
	{of(256, 0, 1), api.Off},
	{of(256, 0, 127), api.Off},
	{of(256, 255, 127), api.Off},
}

func TestCheckAndState(t *testing.T) {
	for _, r := range rights {
		if e := Check(r.h); e != api.OK {
			t.Errorf("Check(%+v): %d, want %d", r.h, e, api.OK)
		}
		if s, e := State(r.h); s != r.state || e != api.OK {
			t.Errorf("State(%+v): %d %d, want %d %d", r.h, s, e, r.state, api.OK)
		}
	}
	for _, h := range wrongs {
		if e := Check(h); e != api.ErrRange {
			t.Errorf("Check(%+v): %d, want %d", h, e, api.ErrRange)
		}
		if s, e := State(h); s != 0 || e != api.ErrRange {
			t.Errorf("State(%+v): %d %d, want 0 %d", h, s, e, api.ErrRange)
		}
	}
}

// allRight are all healths that may be.
func allRight() []api.Health {
	var l []api.Health
	for got := range 256 {
		for sent := range 256 {
			l = append(l, of(sent, got, 0))
		}
		for rest := range 128 {
			l = append(l, of(256, got, rest))
		}
	}
	return l
}

// TestCheckAll: just those that are listed may be, of all that lie around them.
func TestCheckAll(t *testing.T) {
	right := map[api.Health]int{}
	for _, h := range allRight() {
		right[h] = 1
	}
	n := 0
	for sent := -2; sent <= 259; sent++ {
		for got := -2; got <= 258; got++ {
			for rest := -2; rest <= 130; rest++ {
				h := of(sent, got, rest)
				e := Check(h)
				if (e == api.OK) != (right[h] == 1) || e != api.OK && e != api.ErrRange {
					t.Fatalf("Check(%+v): %d", h, e)
				}
				if e == api.OK {
					n++
				}
			}
		}
	}
	if n != len(right) {
		t.Errorf("%d may be, want %d", n, len(right))
	}
}

// stepTests: one happening at each edge.
var stepTests = []struct {
	kind     int
	from, to api.Health
}{
	{api.SentWell, of(0, 0, 0), of(0, 0, 0)},
	{api.SentWell, of(0, 200, 0), of(0, 200, 0)},
	{api.SentWell, of(1, 0, 0), of(0, 0, 0)},
	{api.SentWell, of(127, 9, 0), of(126, 9, 0)},
	{api.SentWell, of(128, 9, 0), of(127, 9, 0)},
	{api.SentWell, of(129, 128, 0), of(128, 128, 0)},
	{api.SentWell, of(248, 9, 0), of(247, 9, 0)},
	{api.SentWell, of(249, 9, 0), of(248, 9, 0)},
	{api.SentWell, of(255, 255, 0), of(254, 255, 0)},

	{api.GotWell, of(0, 0, 0), of(0, 0, 0)},
	{api.GotWell, of(200, 0, 0), of(200, 0, 0)},
	{api.GotWell, of(0, 1, 0), of(0, 0, 0)},
	{api.GotWell, of(9, 126, 0), of(9, 125, 0)},
	{api.GotWell, of(9, 127, 0), of(9, 126, 0)},
	{api.GotWell, of(9, 128, 0), of(9, 126, 0)},
	{api.GotWell, of(9, 129, 0), of(9, 126, 0)},
	{api.GotWell, of(128, 247, 0), of(128, 126, 0)},
	{api.GotWell, of(9, 248, 0), of(9, 126, 0)},
	{api.GotWell, of(255, 255, 0), of(255, 126, 0)},

	{api.SentBad, of(0, 0, 0), of(8, 0, 0)},
	{api.SentBad, of(1, 255, 0), of(9, 255, 0)},
	{api.SentBad, of(119, 9, 0), of(127, 9, 0)},
	{api.SentBad, of(120, 9, 0), of(128, 9, 0)},
	{api.SentBad, of(127, 9, 0), of(135, 9, 0)},
	{api.SentBad, of(128, 9, 0), of(136, 9, 0)},
	{api.SentBad, of(247, 9, 0), of(255, 9, 0)},
	{api.SentBad, of(248, 9, 0), of(256, 9, 0)},
	{api.SentBad, of(249, 9, 0), of(256, 9, 0)},
	{api.SentBad, of(255, 255, 0), of(256, 255, 0)},

	{api.GotBad, of(0, 0, 0), of(0, 1, 0)},
	{api.GotBad, of(255, 0, 0), of(255, 1, 0)},
	{api.GotBad, of(9, 126, 0), of(9, 127, 0)},
	{api.GotBad, of(9, 127, 0), of(9, 128, 0)},
	{api.GotBad, of(9, 128, 0), of(9, 129, 0)},
	{api.GotBad, of(9, 247, 0), of(9, 248, 0)},
	{api.GotBad, of(9, 248, 0), of(9, 249, 0)},
	{api.GotBad, of(9, 254, 0), of(9, 255, 0)},
	{api.GotBad, of(9, 255, 0), of(9, 255, 0)},

	{api.GotWorse, of(0, 0, 0), of(0, 8, 0)},
	{api.GotWorse, of(255, 0, 0), of(255, 8, 0)},
	{api.GotWorse, of(9, 126, 0), of(9, 134, 0)},
	{api.GotWorse, of(9, 127, 0), of(9, 135, 0)},
	{api.GotWorse, of(9, 128, 0), of(9, 136, 0)},
	{api.GotWorse, of(9, 246, 0), of(9, 254, 0)},
	{api.GotWorse, of(9, 247, 0), of(9, 255, 0)},
	{api.GotWorse, of(9, 248, 0), of(9, 255, 0)},
	{api.GotWorse, of(9, 255, 0), of(9, 255, 0)},

	{api.Rested, of(0, 0, 0), of(0, 0, 0)},
	{api.Rested, of(127, 127, 0), of(127, 127, 0)},
	{api.Rested, of(128, 128, 0), of(128, 128, 0)},
	{api.Rested, of(255, 255, 0), of(255, 255, 0)},

	{api.SentWell, of(256, 0, 0), of(256, 0, 0)},
	{api.GotWell, of(256, 0, 0), of(256, 0, 0)},
	{api.SentBad, of(256, 0, 0), of(256, 0, 0)},
	{api.GotBad, of(256, 0, 0), of(256, 0, 0)},
	{api.GotWorse, of(256, 0, 0), of(256, 0, 0)},
	{api.Rested, of(256, 0, 0), of(256, 0, 1)},
	{api.SentWell, of(256, 200, 127), of(256, 200, 127)},
	{api.GotWell, of(256, 200, 127), of(256, 200, 127)},
	{api.SentBad, of(256, 200, 127), of(256, 200, 127)},
	{api.GotBad, of(256, 200, 127), of(256, 200, 127)},
	{api.GotWorse, of(256, 200, 127), of(256, 200, 127)},
	{api.Rested, of(256, 200, 126), of(256, 200, 127)},
	{api.Rested, of(256, 200, 127), of(0, 0, 0)},
	{api.Rested, of(256, 0, 127), of(0, 0, 0)},
}

func wantStep(t *testing.T, h api.Health, l []int, want api.Health) {
	t.Helper()
	if out, at, e := Step(h, l); out != want || at != 0 || e != api.OK {
		t.Errorf("Step(%+v, %s): %+v %d %d, want %+v 0 0", h, told(l), out, at, e, want)
	}
}

func wantStepError(t *testing.T, h api.Health, l []int, at int, want api.Errno) {
	t.Helper()
	if out, n, e := Step(h, l); out != (api.Health{}) || n != at || e != want {
		t.Errorf("Step(%+v, %s): %+v %d %d, want {} %d %d", h, told(l), out, n, e, at, want)
	}
}

// told is a list, or how long it is if it is a long one.
func told(l []int) string {
	if len(l) > 20 {
		return fmt.Sprintf("%d of %v...", len(l), l[:5])
	}
	return fmt.Sprint(l)
}

func TestStepOne(t *testing.T) {
	for _, s := range stepTests {
		wantStep(t, s.from, []int{s.kind}, s.to)
	}
}

func TestStepMany(t *testing.T) {
	for _, r := range rights {
		wantStep(t, r.h, nil, r.h)
		wantStep(t, r.h, []int{}, r.h)
	}
	wantStep(t, of(0, 130, 0), []int{api.SentBad, api.GotWell, api.GotBad, api.GotWorse, api.SentWell}, of(7, 135, 0))
	// Each in turn, not all of a kind together: what is cut off is lost.
	wantStep(t, of(0, 0, 0), []int{api.SentWell, api.SentBad}, of(8, 0, 0))
	wantStep(t, of(0, 0, 0), []int{api.SentBad, api.SentWell}, of(7, 0, 0))
	wantStep(t, of(0, 250, 0), []int{api.GotWorse, api.GotWell, api.GotWell}, of(0, 125, 0))
	wantStep(t, of(0, 250, 0), []int{api.GotWell, api.GotWorse, api.GotWell}, of(0, 126, 0))
	// Behind the one that makes it Off, only rest counts.
	wantStep(t, of(250, 3, 0), []int{api.Rested, api.SentBad, api.Rested, api.GotBad, api.SentWell}, of(256, 3, 1))
	wantStep(t, of(0, 0, 0), times(31, api.SentBad), of(248, 0, 0))
	wantStep(t, of(0, 0, 0), times(32, api.SentBad), of(256, 0, 0))
	wantStep(t, of(0, 0, 0), times(33, api.SentBad), of(256, 0, 0))
	// As many as may be.
	wantStep(t, of(0, 0, 0), times(api.MaxBits, api.SentBad), of(256, 0, 0))
	wantStep(t, of(255, 255, 0), times(api.MaxBits, api.SentWell), of(0, 255, 0))
	wantStep(t, of(255, 255, 0), times(api.MaxBits, api.GotWell), of(255, 0, 0))
	wantStep(t, of(0, 0, 0), times(api.MaxBits, api.GotBad), of(0, 255, 0))
	wantStep(t, of(0, 0, 0), times(api.MaxBits, api.GotWorse), of(0, 255, 0))
	wantStep(t, of(9, 9, 0), times(api.MaxBits, api.Rested), of(9, 9, 0))
}

func TestStepOff(t *testing.T) {
	off := of(256, 200, 0)
	wantStep(t, off, times(127, api.Rested), of(256, 200, 127))
	wantStep(t, off, times(128, api.Rested), of(0, 0, 0))
	wantStep(t, off, times(129, api.Rested), of(0, 0, 0))
	wantStep(t, off, times(api.MaxBits, api.Rested), of(0, 0, 0))
	wantStep(t, of(256, 0, 1), times(126, api.Rested), of(256, 0, 127))
	wantStep(t, of(256, 0, 1), times(127, api.Rested), of(0, 0, 0))
	// What happens between the rests neither counts nor starts them anew.
	for _, kind := range kinds[:5] {
		wantStep(t, off, times(api.MaxBits, kind), off)
		between := slices.Repeat([]int{api.Rested, kind}, 127)
		wantStep(t, off, between, of(256, 200, 127))
		wantStep(t, off, append(between, api.Rested), of(0, 0, 0))
	}
	// It counts again once it is well.
	wantStep(t, off, append(times(128, api.Rested), api.GotBad, api.SentBad, api.Rested), of(8, 1, 0))
}

func TestStepErrors(t *testing.T) {
	for _, kind := range noKinds {
		for _, h := range []api.Health{of(0, 0, 0), of(9, 9, 0), of(255, 255, 0), of(256, 9, 0), of(256, 9, 127)} {
			wantStepError(t, h, []int{kind}, 0, api.ErrWho)
			wantStepError(t, h, []int{kind, api.SentBad, api.Rested}, 0, api.ErrWho)
			wantStepError(t, h, []int{api.SentBad, kind, api.Rested}, 1, api.ErrWho)
			wantStepError(t, h, []int{api.SentBad, api.Rested, kind}, 2, api.ErrWho)
			wantStepError(t, h, []int{api.Rested, kind, api.GotBad, kind, 99}, 1, api.ErrWho)
			wantStepError(t, h, append(times(api.MaxBits-1, api.SentBad), kind), api.MaxBits-1, api.ErrWho)
			wantStepError(t, h, append(times(128, api.Rested), kind), 128, api.ErrWho)
			wantStepError(t, h, times(api.MaxBits, kind), 0, api.ErrWho)
			wantStepError(t, h, times(api.MaxBits+1, kind), 0, api.ErrMany)
			wantStepError(t, h, append(times(api.MaxBits, api.SentBad), kind), 0, api.ErrMany)
			wantStepError(t, h, append([]int{api.Rested, kind}, times(api.MaxBits, api.Rested)...), 0, api.ErrMany)
		}
	}
	for _, kind := range kinds {
		wantStepError(t, of(0, 0, 0), times(api.MaxBits+1, kind), 0, api.ErrMany)
		wantStepError(t, of(256, 0, 0), times(3*api.MaxBits, kind), 0, api.ErrMany)
	}
}

// TestStepWrong: of a wrong health this is told, whatever else is wrong.
func TestStepWrong(t *testing.T) {
	for _, h := range wrongs {
		wantStepError(t, h, nil, 0, api.ErrRange)
		wantStepError(t, h, times(128, api.Rested), 0, api.ErrRange)
		wantStepError(t, h, times(api.MaxBits, api.SentWell), 0, api.ErrRange)
		wantStepError(t, h, times(api.MaxBits+1, api.SentWell), 0, api.ErrRange)
		for _, kind := range kinds {
			wantStepError(t, h, []int{kind}, 0, api.ErrRange)
		}
		for _, kind := range noKinds {
			wantStepError(t, h, []int{kind}, 0, api.ErrRange)
			wantStepError(t, h, []int{api.SentWell, kind, api.Rested, kind}, 0, api.ErrRange)
			wantStepError(t, h, append(times(api.MaxBits, api.GotWell), kind), 0, api.ErrRange)
		}
	}
}

func TestTill(t *testing.T) {
	tests := []struct{ sent, want int }{
		{0, 32}, {1, 32}, {7, 32}, {8, 31}, {9, 31}, {127, 17}, {128, 16}, {129, 16},
		{240, 2}, {247, 2}, {248, 1}, {249, 1}, {255, 1}, {256, 0},
	}
	for _, x := range tests {
		for _, got := range []int{0, 127, 128, 255} {
			if n, e := Till(of(x.sent, got, 0)); n != x.want || e != api.OK {
				t.Errorf("Till(%+v): %d %d, want %d 0", of(x.sent, got, 0), n, e, x.want)
			}
		}
	}
	for _, rest := range []int{1, 127} {
		if n, e := Till(of(256, 9, rest)); n != 0 || e != api.OK {
			t.Errorf("Till of one that is Off: %d %d", n, e)
		}
	}
	for _, h := range wrongs {
		if n, e := Till(h); n != 0 || e != api.ErrRange {
			t.Errorf("Till(%+v): %d %d, want 0 %d", h, n, e, api.ErrRange)
		}
	}
}

// TestTillSteps: so many make it Off, and one less doesn't.
func TestTillSteps(t *testing.T) {
	for sent := range 256 {
		h := of(sent, 77, 0)
		n, e := Till(h)
		if n < 1 || e != api.OK {
			t.Fatalf("Till(%+v): %d %d", h, n, e)
		}
		for _, x := range []struct{ times, off int }{{n - 1, 0}, {n, 1}} {
			out, _, _ := Step(h, times(x.times, api.SentBad))
			s, _ := State(out)
			if (s == api.Off) != (x.off == 1) {
				t.Errorf("Till(%+v): %d, but %d of them make %+v", h, n, x.times, out)
			}
		}
	}
}

// stepTold is a happening as the document tells it, written again, by counting
// one at a time.
func stepTold(h api.Health, kind int) api.Health {
	if h.Sent == 256 {
		if kind == 6 && h.Rest == 127 {
			return api.Health{}
		}
		if kind == 6 {
			h.Rest++
		}
		return h
	}
	switch kind {
	case 1:
		if h.Sent != 0 {
			h.Sent--
		}
	case 2:
		if h.Got > 127 {
			h.Got = 126
		} else if h.Got != 0 {
			h.Got--
		}
	case 3:
		for n := 0; n < 8 && h.Sent < 256; n++ {
			h.Sent++
		}
	case 4:
		if h.Got < 255 {
			h.Got++
		}
	case 5:
		for n := 0; n < 8 && h.Got < 255; n++ {
			h.Got++
		}
	}
	return h
}

// TestStepAll: each happening at each health: what comes is what is told, it is
// right, and what is Off gets well by the last rest alone.
func TestStepAll(t *testing.T) {
	for _, h := range allRight() {
		for _, kind := range kinds {
			out, at, e := Step(h, []int{kind})
			if want := stepTold(h, kind); out != want || at != 0 || e != api.OK {
				t.Fatalf("Step(%+v, %d): %+v %d %d, want %+v 0 0", h, kind, out, at, e, want)
			}
			if e := Check(out); e != api.OK {
				t.Fatalf("Step(%+v, %d): %+v is not right: %d", h, kind, out, e)
			}
			well := h.Sent == 256 && out.Sent != 256
			if well != (h.Sent == 256 && h.Rest == 127 && kind == api.Rested) {
				t.Fatalf("Step(%+v, %d): %+v gets well", h, kind, out)
			}
		}
	}
}

// mixed is n happenings without a plain order; other seeds, others. Those that
// are often make one Off, and let it rest.
func mixed(n, seed int) []int {
	often := []int{1, 2, 3, 3, 4, 5, 6, 6, 6, 6}
	l := make([]int, n)
	x := uint32(seed)*2654435761 + 12345
	for i := range l {
		x = x*1664525 + 1013904223
		l[i] = often[(x>>16)%10]
	}
	return l
}

// TestStepRows: many at once are the same as one by one, and as what is told.
func TestStepRows(t *testing.T) {
	offs, wells := 0, 0
	for seed := range 60 {
		l := mixed(api.MaxBits-seed, seed)
		first := rights[seed%len(rights)].h
		one, want := first, first
		for i, kind := range l {
			before := want
			want = stepTold(want, kind)
			if before.Sent < 256 && want.Sent == 256 {
				offs++
			}
			if before.Sent == 256 && want.Sent == 0 {
				wells++
			}
			one, _, _ = Step(one, l[i:i+1])
			if one != want {
				t.Fatalf("seed %d, happening %d: %+v, want %+v", seed, i, one, want)
			}
		}
		wantStep(t, first, l, want)
		half, _, _ := Step(first, l[:len(l)/2])
		wantStep(t, half, l[len(l)/2:], want)
	}
	if offs < 20 || wells < 20 {
		t.Errorf("%d went Off, %d got well: too few to tell", offs, wells)
	}
}

// TestOnlyRead: neither the list nor the room behind it is changed.
func TestOnlyRead(t *testing.T) {
	room := append(mixed(500, 3), times(100, 99)...)
	kept := slices.Clone(room)
	Step(of(200, 200, 0), room[:500])
	Step(of(200, 200, 0), room[:501])
	Step(of(257, 200, 0), room[:500])
	if !slices.Equal(room, kept) {
		t.Error("Step changed what it was given")
	}
}
