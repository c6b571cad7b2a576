package filter

import (
	"fmt"
	"math"
	"math/rand"
	"slices"
	"testing"

	"omnibus/api"
	"omnibus/frame"
)

// short and long are filters by their two numbers.
func short(want, mask int) api.Filter { return api.Filter{Want: want, Mask: mask} }
func long(want, mask int) api.Filter  { return api.Filter{Want: want, Mask: mask, Long: true} }

// times is n times the same filter.
func times(n int, x api.Filter) []api.Filter { return slices.Repeat([]api.Filter{x}, n) }

// told is what was answered, as a text: nil and empty lists are alike in it.
func told(l ...any) string { return fmt.Sprint(l...) }

// rights are filters that may be, at the edges.
var rights = []api.Filter{
	short(0, 0), short(0, 2047), short(2047, 0), short(2047, 2047), short(1024, 1023), short(5, 2),
	long(0, 0), long(0, 536870911), long(536870911, 0), long(536870911, 536870911), long(2048, 0), long(0, 2048),
}

// wrongs are filters that may not be.
var wrongs = []api.Filter{
	short(-1, 0), short(2048, 0), short(0, -1), short(0, 2048), short(-1, 2048), short(2048, 2047),
	short(536870911, 0), short(0, 536870911), short(-1, -1), short(2047, -1), short(-1, 2047), short(1<<32, 0), short(0, 1<<32),
	short(math.MinInt, 0), short(math.MaxInt, 0), short(0, math.MinInt), short(0, math.MaxInt), short(math.MinInt, math.MaxInt),
	long(-1, 0), long(536870912, 0), long(0, -1), long(0, 536870912), long(536870911, -1), long(536870912, 536870911),
	long(math.MinInt, 0), long(math.MaxInt, 0), long(0, math.MinInt), long(0, math.MaxInt), long(math.MaxInt, math.MinInt),
}

// checkAll holds the error of each call that checks l against want; with an
// error, all else must be zero.
func checkAll(t *testing.T, l []api.Filter, want api.Errno) {
	t.Helper()
	e := Check(l)
	in, eIn := In(l, api.Frame{ID: 5})
	least, eLeast := Least(l)
	n, eShort := Count(l, false)
	m, eLong := Count(l, true)
	if e != want || eIn != want || eLeast != want || eShort != want || eLong != want {
		t.Errorf("%v: Check %d, In %d, Least %d, Count %d and %d, want %d", l, e, eIn, eLeast, eShort, eLong, want)
	}
	if want != api.OK && (in != nil || least != nil || n != 0 || m != 0) {
		t.Errorf("%v: beside the error %v %v %d %d, want nothing", l, in, least, n, m)
	}
}

func TestCheck(t *testing.T) {
	checkAll(t, nil, api.OK)
	checkAll(t, []api.Filter{}, api.OK)
	checkAll(t, rights, api.OK)
	for _, x := range rights {
		checkAll(t, times(1, x), api.OK)
		checkAll(t, times(api.MaxFilters, x), api.OK)
		checkAll(t, times(api.MaxFilters+1, x), api.ErrMany)
		checkAll(t, times(100, x), api.ErrMany)
	}
	for _, x := range wrongs {
		checkAll(t, times(1, x), api.ErrRange)
		for _, n := range []int{2, 3, api.MaxFilters} {
			for _, at := range []int{0, n / 2, n - 1} {
				l := times(n, long(7, 7))
				l[at] = x
				checkAll(t, l, api.ErrRange)
			}
		}
		for _, at := range []int{0, 7, api.MaxFilters} {
			l := times(api.MaxFilters+1, short(7, 7))
			l[at] = x
			checkAll(t, l, api.ErrMany)
		}
	}
}

// wrongFrames are frames that can't be sent, and chapter 4's errors.
var wrongFrames = []struct {
	f api.Frame
	e api.Errno
}{
	{api.Frame{ID: -1}, api.ErrRange},
	{api.Frame{ID: 2048}, api.ErrRange},
	{api.Frame{ID: 536870912, Long: true}, api.ErrRange},
	{api.Frame{ID: math.MinInt}, api.ErrRange},
	{api.Frame{ID: math.MaxInt, Long: true}, api.ErrRange},
	{api.Frame{ID: 1, Remote: true, Fast: true}, api.ErrForm},
	{api.Frame{ID: 1, Remote: true, Data: []byte{1}}, api.ErrForm},
	{api.Frame{ID: 1, Remote: true, Size: 9}, api.ErrRange},
	{api.Frame{ID: 1, Size: 1}, api.ErrRange},
	{api.Frame{ID: 1, Data: make([]byte, 9)}, api.ErrMany},
	{api.Frame{ID: 1, Fast: true, Data: make([]byte, 65)}, api.ErrMany},
	{api.Frame{ID: 1, Fast: true, Data: make([]byte, 9)}, api.ErrForm},
}

func TestInWrong(t *testing.T) {
	for _, w := range wrongFrames {
		if e := frame.Check(w.f); e != w.e {
			t.Fatalf("frame.Check(%+v): %d, want %d", w.f, e, w.e)
		}
		for _, l := range [][]api.Filter{nil, {short(0, 0)}, {long(0, 0)}, rights} {
			if in, e := In(l, w.f); in != nil || e != w.e {
				t.Errorf("In(%v, %+v): %v %d, want none, %d", l, w.f, in, e, w.e)
			}
		}
		many := times(api.MaxFilters+1, short(-1, 0))
		if in, e := In(many, w.f); in != nil || e != api.ErrMany {
			t.Errorf("In(too many, %+v): %v %d, want none, %d", w.f, in, e, api.ErrMany)
		}
		if in, e := In(wrongs[:1], w.f); in != nil || e != api.ErrRange {
			t.Errorf("In(a wrong one, %+v): %v %d, want none, %d", w.f, in, e, api.ErrRange)
		}
	}
}

func TestIn(t *testing.T) {
	both := []api.Filter{short(5, 2047), long(5, 536870911), short(0, 0), long(0, 0), short(4, 2044), long(6, 536870908)}
	last := []api.Filter{short(2047, 2047), long(536870911, 536870911), long(2047, 2047), long(2047, 536870911)}
	for _, c := range []struct {
		l    []api.Filter
		f    api.Frame
		want []int
	}{
		{nil, api.Frame{ID: 5}, nil},
		{nil, api.Frame{ID: 5, Long: true}, nil},
		{both, api.Frame{ID: 5}, []int{0, 2, 4}},
		{both, api.Frame{ID: 5, Long: true}, []int{1, 3, 5}},
		{both, api.Frame{ID: 5, Remote: true, Size: 8}, []int{0, 2, 4}},
		{both, api.Frame{ID: 5, Remote: true, Long: true}, []int{1, 3, 5}},
		{both, api.Frame{ID: 5, Fast: true, Data: make([]byte, 64)}, []int{0, 2, 4}},
		{both, api.Frame{ID: 5, Fast: true, Long: true}, []int{1, 3, 5}},
		{both, api.Frame{ID: 5, Data: []byte{1, 2}}, []int{0, 2, 4}},
		{both, api.Frame{ID: 7}, []int{2, 4}},
		{both, api.Frame{ID: 8}, []int{2}},
		{both, api.Frame{ID: 5 + 2048, Long: true}, []int{3}},
		{last, api.Frame{ID: 2047}, []int{0}},
		{last, api.Frame{ID: 2047, Long: true}, []int{2, 3}},
		{last, api.Frame{ID: 536870911, Long: true}, []int{1, 2}},
		{last, api.Frame{ID: 0}, nil},
		{[]api.Filter{short(2047, 0), short(7, 4), short(3, 4), short(7, 6)}, api.Frame{ID: 4}, []int{0, 1}},
		{[]api.Filter{short(0, 1), short(1, 1)}, api.Frame{ID: 1}, []int{1}},
		{[]api.Filter{short(0, 1024), short(1024, 1024)}, api.Frame{ID: 1023}, []int{0}},
		{times(16, short(9, 9)), api.Frame{ID: 11}, []int{0, 1, 2, 3, 4, 5, 6, 7, 8, 9, 10, 11, 12, 13, 14, 15}},
	} {
		if in, e := In(c.l, c.f); !slices.Equal(in, c.want) || e != api.OK {
			t.Errorf("In(%v, %+v): %v %d, want %v", c.l, c.f, in, e, c.want)
		}
	}
}

func TestLeast(t *testing.T) {
	for _, c := range []struct{ l, want []api.Filter }{
		{nil, nil},
		{[]api.Filter{short(5, 3)}, []api.Filter{short(1, 3)}},
		{[]api.Filter{long(536870911, 0)}, []api.Filter{long(0, 0)}},
		{[]api.Filter{short(2047, 2047)}, []api.Filter{short(2047, 2047)}},
		// two alike, and alike but for what Mask hasn't
		{[]api.Filter{short(5, 7), short(5, 7)}, []api.Filter{short(5, 7)}},
		{[]api.Filter{short(5, 7), short(13, 7)}, []api.Filter{short(5, 7)}},
		{[]api.Filter{short(13, 7), short(5, 7), short(1, 2047), short(21, 7)}, []api.Filter{short(5, 7), short(1, 2047)}},
		{times(16, long(9, 3)), []api.Filter{long(1, 3)}},
		// the first of those that are alike stays where it stands
		{[]api.Filter{short(5, 7), short(1, 7), short(5, 7), short(1, 7)}, []api.Filter{short(5, 7), short(1, 7)}},
		{[]api.Filter{short(1, 7), short(5, 7), short(1, 7)}, []api.Filter{short(1, 7), short(5, 7)}},
		// three of which each holds the next
		{[]api.Filter{short(4, 2044), short(4, 2046), short(5, 2047)}, []api.Filter{short(4, 2044)}},
		{[]api.Filter{short(5, 2047), short(4, 2046), short(4, 2044)}, []api.Filter{short(4, 2044)}},
		{[]api.Filter{short(4, 2046), short(7, 2044), short(5, 2047)}, []api.Filter{short(4, 2044)}},
		// the other kind stays
		{[]api.Filter{short(0, 0), long(5, 536870911)}, []api.Filter{short(0, 0), long(5, 536870911)}},
		{[]api.Filter{short(5, 2047), long(0, 0), short(6, 7)}, []api.Filter{short(5, 2047), long(0, 0), short(6, 7)}},
		{[]api.Filter{long(3, 2047), short(3, 2047)}, []api.Filter{long(3, 2047), short(3, 2047)}},
		{[]api.Filter{short(0, 0), long(5, 5), long(0, 0), short(1, 1)}, []api.Filter{short(0, 0), long(0, 0)}},
		// two hold it together, neither alone
		{[]api.Filter{short(0, 1), short(1, 1), short(2, 2)}, []api.Filter{short(0, 1), short(1, 1), short(2, 2)}},
		{[]api.Filter{short(4, 2046), short(4, 2047), short(6, 2046), short(4, 2045)}, []api.Filter{short(4, 2046), short(6, 2046), short(4, 2045)}},
		{[]api.Filter{short(0, 1), short(1, 1), short(0, 0)}, []api.Filter{short(0, 0)}},
		// they lie over one another, but neither holds the other
		{[]api.Filter{short(1, 1), short(2, 2)}, []api.Filter{short(1, 1), short(2, 2)}},
	} {
		least, e := Least(c.l)
		if !slices.Equal(least, c.want) || e != api.OK {
			t.Errorf("Least(%v): %v %d, want %v", c.l, least, e, c.want)
		}
	}
}

func TestCount(t *testing.T) {
	var over, overLong, apart []api.Filter
	for i := range 16 {
		over = append(over, short(1<<(i%11), 1<<(i%11)))
		overLong = append(overLong, long(1<<i, 1<<i))
		apart = append(apart, long(i<<25, 15<<25))
	}
	mixed := []api.Filter{short(1, 1), long(1, 3), short(2, 2), long(0, 3), long(5, 7)}
	for _, c := range []struct {
		l           []api.Filter
		short, long int
	}{
		{nil, 0, 0},
		{[]api.Filter{short(0, 0)}, 2048, 0},
		{[]api.Filter{short(2047, 0)}, 2048, 0},
		{[]api.Filter{long(0, 0)}, 0, 1 << 29},
		{[]api.Filter{long(5, 0), short(5, 0)}, 2048, 1 << 29},
		{[]api.Filter{short(5, 2047)}, 1, 0},
		{[]api.Filter{long(5, 536870911)}, 0, 1},
		{[]api.Filter{long(5, 536870911), long(6, 536870911), long(5, 536870910)}, 0, 3},
		{[]api.Filter{long(5, 1)}, 0, 1 << 28},
		{[]api.Filter{long(5, 1), long(0, 1)}, 0, 1 << 29},
		{[]api.Filter{long(2, 2), long(1<<28, 1<<28)}, 0, 3 << 27},
		{[]api.Filter{long(0, 1<<28), long(0, 536870911), long(536870911, 536870911)}, 0, 1<<28 + 1},
		{[]api.Filter{long(7, 2047)}, 0, 1 << 18},
		{over, 2047, 0}, // all but 0
		{overLong, 0, 1<<29 - 1<<13},
		{append(overLong[:15:15], long(0, 1<<15-1)), 0, 1 << 29},
		{apart, 0, 1 << 29},
		{apart[3:], 0, 13 << 25},
		{times(16, short(5, 7)), 256, 0},
		{mixed, 1536, 1 << 28},
		{[]api.Filter{short(1, 1), short(3, 3), short(7, 7)}, 1024, 0},
		{[]api.Filter{short(7, 7), short(3, 3), short(1, 1)}, 1024, 0},
	} {
		n, e := Count(c.l, false)
		m, eLong := Count(c.l, true)
		if n != c.short || m != c.long || e != api.OK || eLong != api.OK {
			t.Errorf("Count(%v): %d %d and %d %d, want %d and %d", c.l, n, e, m, eLong, c.short, c.long)
		}
	}
}

func TestRanges(t *testing.T) {
	const all = 536870911
	for _, c := range []struct {
		low, high int
		long      bool
		want      []api.Filter
	}{
		{0, 0, false, []api.Filter{short(0, 2047)}},
		{2047, 2047, false, []api.Filter{short(2047, 2047)}},
		{1001, 1001, false, []api.Filter{short(1001, 2047)}},
		{1000, 1000, false, []api.Filter{short(1000, 2047)}},
		{0, 0, true, []api.Filter{long(0, all)}},
		{all, all, true, []api.Filter{long(all, all)}},
		{2049, 2049, true, []api.Filter{long(2049, all)}},
		{0, 2047, false, []api.Filter{short(0, 0)}},
		{0, all, true, []api.Filter{long(0, 0)}},
		{0, 2047, true, []api.Filter{long(0, all-2047)}},
		{0, 1, false, []api.Filter{short(0, 2046)}},
		{1, 2, false, []api.Filter{short(1, 2047), short(2, 2047)}},
		{1, 4, false, []api.Filter{short(1, 2047), short(2, 2046), short(4, 2047)}},
		{3, 8, false, []api.Filter{short(3, 2047), short(4, 2044), short(8, 2047)}},
		{0, 6, false, []api.Filter{short(0, 2044), short(4, 2046), short(6, 2047)}},
		{1024, 2047, false, []api.Filter{short(1024, 1024)}},
		{0, 1024, false, []api.Filter{short(0, 1024), short(1024, 2047)}},
		{all - 2, all, true, []api.Filter{long(all-2, all), long(all-1, all-1)}},
	} {
		if l, e := Ranges(c.low, c.high, c.long); !slices.Equal(l, c.want) || e != api.OK {
			t.Errorf("Ranges(%d, %d, %t): %v %d, want %v", c.low, c.high, c.long, l, e, c.want)
		}
	}
}

func TestRangesWrong(t *testing.T) {
	for _, isLong := range []bool{false, true} {
		end := api.MaxID
		if isLong {
			end = api.MaxLong
		}
		for _, c := range [][2]int{
			{1, 0}, {3, 2}, {end, end - 1}, {end, 0}, {-1, 0}, {-1, -1}, {-1, end}, {0, -1}, {0, end + 1}, {end, end + 1},
			{end + 1, end + 1}, {end + 1, end}, {math.MinInt, 0}, {0, math.MinInt}, {0, math.MaxInt}, {math.MaxInt, 0},
			{math.MinInt, math.MaxInt}, {math.MaxInt, math.MinInt}, {math.MinInt, math.MinInt}, {math.MaxInt, math.MaxInt},
		} {
			if l, e := Ranges(c[0], c[1], isLong); l != nil || e != api.ErrRange {
				t.Errorf("Ranges(%d, %d, %t): %v %d, want none, %d", c[0], c[1], isLong, l, e, api.ErrRange)
			}
		}
	}
}

// TestRangesMost: from 1 to the last but one, each power of two is there twice.
func TestRangesMost(t *testing.T) {
	for _, isLong := range []bool{false, true} {
		width, end := 11, api.MaxID
		if isLong {
			width, end = 29, api.MaxLong
		}
		var want []api.Filter
		low := 1
		for i := range 2 * (width - 1) {
			n := 1 << min(i, 2*(width-1)-1-i)
			want = append(want, api.Filter{Want: low, Mask: end - n + 1, Long: isLong})
			low += n
		}
		if l, e := Ranges(1, end-1, isLong); !slices.Equal(l, want) || e != api.OK {
			t.Errorf("Ranges(1, %d, %t): %v %d, want %v", end-1, isLong, l, e, want)
		}
	}
}

// lets tells, bit by bit, whether a filter lets a number of its kind in.
func lets(x api.Filter, n int) bool {
	for i := range 29 {
		if x.Mask>>i%2 == 1 && x.Want>>i%2 != n>>i%2 {
			return false
		}
	}
	return true
}

// letIn tells for each number of a kind's low bits whether x lets it in. The
// numbers are short ones, or such Long ones as differ only in the places of 11
// bits: place tells where each stands.
func letIn(x api.Filter, place func(n int) int) [2048]bool {
	var out [2048]bool
	for n := range out {
		out[n] = lets(x, place(n))
	}
	return out
}

// same leaves a number as it is.
func same(n int) int { return n }

// spread lays 11 bits far apart within 29.
func spread(n int) int {
	out := 0
	for i, to := range [11]int{0, 1, 5, 6, 10, 13, 17, 20, 25, 27, 28} {
		out |= n >> i % 2 << to
	}
	return out
}

// random is a list of filters of a kind; some of them are alike, or hold another.
func random(r *rand.Rand, isLong bool, place func(n int) int) []api.Filter {
	var l []api.Filter
	for range r.Intn(api.MaxFilters + 1) {
		mask := r.Intn(2048)
		for range r.Intn(4) {
			mask &= r.Intn(2048)
		}
		x := api.Filter{Want: place(r.Intn(2048)), Mask: place(mask), Long: isLong}
		if len(l) > 0 && r.Intn(3) == 0 {
			x.Want = l[r.Intn(len(l))].Want
		}
		l = append(l, x)
	}
	return l
}

// leastTold is Least, worked out by all the numbers that are let in.
func leastTold(l []api.Filter, place func(n int) int) []api.Filter {
	sets := make([][2048]bool, len(l))
	for i, x := range l {
		sets[i] = letIn(x, place)
	}
	within := func(i, j int) bool {
		for n, in := range sets[i] {
			if in && !sets[j][n] {
				return false
			}
		}
		return true
	}
	var out []api.Filter
	for i, x := range l {
		stays := true
		for j := range l {
			if i != j && within(i, j) && (j < i || sets[i] != sets[j]) {
				stays = false
			}
		}
		if stays {
			out = append(out, api.Filter{Want: x.Want & x.Mask, Mask: x.Mask, Long: x.Long})
		}
	}
	return out
}

// inTold is In, worked out bit by bit.
func inTold(l []api.Filter, n int) []int {
	var out []int
	for i, x := range l {
		if lets(x, n) {
			out = append(out, i)
		}
	}
	return out
}

// checkNumbers holds each number against In, Least lets in what all do, and Count
// as many as there are; each number stands for so many.
func checkNumbers(t *testing.T, l []api.Filter, isLong bool, place func(n int) int, each int) {
	t.Helper()
	least, _ := Least(l)
	if want := leastTold(l, place); !slices.Equal(least, want) {
		t.Fatalf("Least(%v): %v, want %v", l, least, want)
	}
	n := 0
	for i := range 2048 {
		f := api.Frame{ID: place(i), Long: isLong}
		in, e := In(l, f)
		if !slices.Equal(in, inTold(l, f.ID)) || e != api.OK {
			t.Fatalf("In(%v, %d): %v %d, want %v", l, f.ID, in, e, inTold(l, f.ID))
		}
		by, _ := In(least, f)
		if (len(by) > 0) != (len(in) > 0) {
			t.Fatalf("%v lets in %d by %v, but %v by %v", l, f.ID, in, least, by)
		}
		if len(in) > 0 {
			n += each
		}
	}
	for _, x := range [][]api.Filter{l, least} {
		if m, e := Count(x, isLong); m != n || e != api.OK {
			t.Fatalf("Count(%v): %d %d, want %d", x, m, e, n)
		}
		if m, e := Count(x, !isLong); m != 0 || e != api.OK {
			t.Fatalf("Count(%v), of the other kind: %d %d, want 0", x, m, e)
		}
	}
}

func TestNumbers(t *testing.T) {
	r := rand.New(rand.NewSource(7))
	for range 150 {
		checkNumbers(t, random(r, false, same), false, same, 1)
		checkNumbers(t, random(r, true, spread), true, spread, 1<<18)
	}
}

// TestBothKinds: filters of one kind change nothing for the other.
func TestBothKinds(t *testing.T) {
	r := rand.New(rand.NewSource(8))
	for range 300 {
		l := random(r, false, same)
		m := random(r, true, spread)
		l, m = l[:len(l)/2], m[:len(m)/2]
		var both []api.Filter
		for i := range max(len(l), len(m)) {
			both = append(both, l[min(i, len(l)):min(i+1, len(l))]...)
			both = append(both, m[min(i, len(m)):min(i+1, len(m))]...)
		}
		if told(Count(both, false)) != told(Count(l, false)) || told(Count(both, true)) != told(Count(m, true)) {
			t.Fatalf("Count(%v): %s and %s", both, told(Count(both, false)), told(Count(both, true)))
		}
		isLong := func(x api.Filter) bool { return x.Long }
		isShort := func(x api.Filter) bool { return !x.Long }
		least, _ := Least(both)
		ofShort, _ := Least(l)
		ofLong, _ := Least(m)
		if !slices.Equal(slices.DeleteFunc(slices.Clone(least), isLong), ofShort) ||
			!slices.Equal(slices.DeleteFunc(slices.Clone(least), isShort), ofLong) {
			t.Fatalf("Least(%v): %v, want %v and %v", both, least, ofShort, ofLong)
		}
	}
}

// rangesTold is Ranges, worked out by trying all powers of two from the greatest
// one on.
func rangesTold(low, high int, isLong bool) []api.Filter {
	width := 11
	if isLong {
		width = 29
	}
	var out []api.Filter
	for at := low; at <= high; {
		w := width
		for at&(1<<w-1) != 0 || high-at < 1<<w-1 {
			w--
		}
		out = append(out, api.Filter{Want: at, Mask: (1<<(width-w) - 1) << w, Long: isLong})
		at += 1 << w
	}
	return out
}

// checkRange holds each short number against the filters of a range: those within
// are let in by one of them, all others by none.
func checkRange(t *testing.T, low, high int) {
	t.Helper()
	l, e := Ranges(low, high, false)
	if want := rangesTold(low, high, false); !slices.Equal(l, want) || e != api.OK {
		t.Fatalf("Ranges(%d, %d): %v %d, want %v", low, high, l, e, want)
	}
	// There may be more of them than may be asked at a time.
	halves := [][]api.Filter{l[:len(l)/2], l[len(l)/2:]}
	for n := range 2048 {
		by := 0
		for _, half := range halves {
			in, e := In(half, api.Frame{ID: n})
			if e != api.OK {
				t.Fatalf("In(%v, %d): %d", half, n, e)
			}
			by += len(in)
		}
		if within := n >= low && n <= high; by > 1 || within != (by == 1) {
			t.Fatalf("Ranges(%d, %d): %v, %d is let in by %d", low, high, l, n, by)
		}
	}
	first, _ := Count(halves[0], false)
	second, _ := Count(halves[1], false)
	if first+second != high-low+1 {
		t.Fatalf("Ranges(%d, %d): %v, they let in %d and %d", low, high, l, first, second)
	}
}

func TestManyRanges(t *testing.T) {
	r := rand.New(rand.NewSource(9))
	checkRange(t, 0, 2047)
	checkRange(t, 1, 2046)
	for range 400 {
		a, b := r.Intn(2048), r.Intn(2048)
		checkRange(t, min(a, b), max(a, b))
	}
	for low := range 20 {
		for high := low; high < 20; high++ {
			checkRange(t, low, high)
			checkRange(t, 2047-high, 2047-low)
		}
	}
}

// TestAllRanges holds all short ranges, and many Long ones, against the second way.
func TestAllRanges(t *testing.T) {
	for low := range 2048 {
		for high := low; high < 2048; high += 1 + low%7 {
			if l, _ := Ranges(low, high, false); !slices.Equal(l, rangesTold(low, high, false)) {
				t.Fatalf("Ranges(%d, %d): %v", low, high, l)
			}
		}
	}
	r := rand.New(rand.NewSource(10))
	for range 20000 {
		a, b := r.Intn(api.MaxLong+1)>>r.Intn(29), r.Intn(api.MaxLong+1)>>r.Intn(29)
		low, high := min(a, b), max(a, b)
		l, e := Ranges(low, high, true)
		if !slices.Equal(l, rangesTold(low, high, true)) || e != api.OK {
			t.Fatalf("Ranges(%d, %d, true): %v %d", low, high, l, e)
		}
		n := 0
		for part := range slices.Chunk(l, api.MaxFilters) {
			m, _ := Count(part, true)
			n += m
		}
		if n != high-low+1 {
			t.Fatalf("Ranges(%d, %d, true): %v, they let in %d", low, high, l, n)
		}
	}
}

// TestOnlyRead: neither the list nor the room behind it is changed, and what is
// answered is new.
func TestOnlyRead(t *testing.T) {
	room := []api.Filter{short(13, 7), short(5, 7), long(9, 1), short(1, 0), long(3, 3), short(77, 7), long(88, 8)}
	was := slices.Clone(room)
	data := []byte{1, 2, 3, 4}
	l, f := room[:5], api.Frame{ID: 5, Data: data[:2]}
	first := told(Check(l), told(In(l, f)), told(Least(l)), told(Count(l, false)), told(Count(l, true)))
	in, _ := In(l, f)
	least, _ := Least(l)
	if !slices.Equal(room, was) || !slices.Equal(data, []byte{1, 2, 3, 4}) {
		t.Fatalf("changed: %v %v", room, data)
	}
	_ = append(in, 1, 2, 3)
	for i := range in {
		in[i] = -7
	}
	least = append(least, short(-1, -1))
	for i := range least {
		least[i] = short(-2, -2)
	}
	if !slices.Equal(room, was) {
		t.Fatalf("changed by what was answered: %v", room)
	}
	if again := told(Check(l), told(In(l, f)), told(Least(l)), told(Count(l, false)), told(Count(l, true))); again != first {
		t.Fatalf("%s, and again %s", first, again)
	}
	one, _ := Ranges(1, 2046, false)
	wasOne := slices.Clone(one)
	for i := range one {
		one[i] = long(-1, -1)
	}
	if two, _ := Ranges(1, 2046, false); !slices.Equal(two, wasOne) {
		t.Fatalf("Ranges: %v, want %v", two, wasOne)
	}
}
