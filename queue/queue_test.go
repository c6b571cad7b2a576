package queue

import (
	"fmt"
	"math"
	"math/rand"
	"slices"
	"testing"

	"omnibus/api"
	"omnibus/frame"
)

// short is a short frame with these bytes.
func short(id int, data ...byte) api.Frame { return api.Frame{ID: id, Data: data} }

// long is a Long frame with these bytes.
func long(id int, data ...byte) api.Frame { return api.Frame{ID: id, Long: true, Data: data} }

// remote makes a frame without data one that asks for so many bytes.
func remote(f api.Frame, size int) api.Frame {
	f.Remote, f.Size = true, size
	return f
}

// fast makes a frame one of the newer kind.
func fast(f api.Frame) api.Frame {
	f.Fast = true
	return f
}

// list is a queue, written shortly.
func list(l ...api.Frame) []api.Frame { return l }

// rising has n short frames, with the numbers 10, 20 and so on.
func rising(n int) []api.Frame {
	var q []api.Frame
	for i := range n {
		q = append(q, short(10*(i+1), byte(i)))
	}
	return q
}

// alike tells whether two queues have the same frames.
func alike(a, b []api.Frame) bool { return slices.EqualFunc(a, b, frame.Same) }

// isNothing tells whether a frame is zero, its Data being none at all.
func isNothing(f api.Frame) bool { return frame.Same(f, api.Frame{}) && f.Data == nil }

// wrongs are frames that can't be sent, and chapter 4's errors.
var wrongs = []struct {
	f api.Frame
	e api.Errno
}{
	{short(-1), api.ErrRange},
	{short(2048), api.ErrRange},
	{long(-1), api.ErrRange},
	{long(536870912), api.ErrRange},
	{short(math.MinInt), api.ErrRange},
	{long(math.MaxInt), api.ErrRange},
	{fast(remote(short(1), 0)), api.ErrForm},
	{remote(short(1, 1), 0), api.ErrForm},
	{remote(long(1), 9), api.ErrRange},
	{remote(short(1), -1), api.ErrRange},
	{api.Frame{ID: 1, Size: 1}, api.ErrRange},
	{short(1, make([]byte, 9)...), api.ErrMany},
	{fast(long(1, make([]byte, 65)...)), api.ErrMany},
	{fast(short(1, make([]byte, 9)...)), api.ErrForm},
	{fast(short(1, make([]byte, 63)...)), api.ErrForm},
}

// checkTold holds the error of Check, and of each other call as the one that it
// says first, against want; with an error, all else must be zero.
func checkTold(t *testing.T, q []api.Frame, want api.Errno) {
	t.Helper()
	if e := Check(q); e != want {
		t.Errorf("Check(%v): %d, want %d", q, e, want)
	}
	if want == api.OK {
		return
	}
	for _, f := range list(short(5, 1), short(-1), short(1, make([]byte, 9)...)) {
		put, ePut := Put(q, f)
		renew, eRenew := Renew(q, f)
		if put != nil || renew != nil || ePut != want || eRenew != want {
			t.Errorf("%v and %v: Put %v %d, Renew %v %d, want none, %d", q, f, put, ePut, renew, eRenew, want)
		}
	}
	if f, rest, e := Take(q); !isNothing(f) || rest != nil || e != want {
		t.Errorf("Take(%v): %v %v %d, want none, %d", q, f, rest, e, want)
	}
	for _, other := range [][]api.Frame{nil, rising(3), rising(16)} {
		a, n, e := Merge(q, other)
		b, m, eb := Merge(other, q)
		if a != nil || b != nil || n != 0 || m != 0 || e != want || eb != want {
			t.Errorf("Merge of %v and %v: %v %d %d, %v %d %d, want none, %d", q, other, a, n, e, b, m, eb, want)
		}
	}
}

func TestCheckHowMany(t *testing.T) {
	checkTold(t, nil, api.OK)
	checkTold(t, list(), api.OK)
	for _, n := range []int{1, 2, 3, 15, 16} {
		checkTold(t, rising(n), api.OK)
		checkTold(t, slices.Repeat(list(long(7)), n), api.OK)
	}
	for _, n := range []int{17, 18, 32, 33, 100} {
		checkTold(t, rising(n), api.ErrMany)
		checkTold(t, slices.Repeat(list(short(7)), n), api.ErrMany)
	}
}

func TestCheckWrongFrames(t *testing.T) {
	for _, w := range wrongs {
		if e := frame.Check(w.f); e != w.e {
			t.Fatalf("frame.Check(%+v): %d, want %d", w.f, e, w.e)
		}
		for _, n := range []int{1, 2, 3, 15, 16} {
			for _, at := range []int{0, n / 2, n - 1} {
				q := rising(n)
				q[at] = w.f
				checkTold(t, q, w.e)
			}
		}
		for _, at := range []int{0, 8, 15, 16} {
			q := rising(17)
			q[at] = w.f
			checkTold(t, q, api.ErrMany)
		}
		// of two wrong ones the first is told
		for _, v := range wrongs {
			checkTold(t, list(short(1), w.f, v.f), w.e)
			checkTold(t, list(w.f, short(5), v.f), w.e)
		}
	}
}

func TestCheckOrder(t *testing.T) {
	for _, n := range []int{2, 3, 15, 16} {
		for _, at := range []int{0, (n - 2) / 2, n - 2} {
			q := rising(n)
			q[at], q[at+1] = q[at+1], q[at]
			checkTold(t, q, api.ErrForm)
		}
	}
	// too many are told first
	q := rising(17)
	slices.Reverse(q)
	checkTold(t, q, api.ErrMany)
	// the one that is far ahead counts no more, nor does the first one alone
	checkTold(t, list(short(5), short(7), short(6)), api.ErrForm)
	checkTold(t, list(short(5), short(9), short(6), short(9)), api.ErrForm)
	checkTold(t, list(short(5), short(5), short(4)), api.ErrForm)
}

// TestCheckOrderAndWrong: what is wrong with a frame is told ahead of what is
// wrong with those behind it, and its own error ahead of its place.
func TestCheckOrderAndWrong(t *testing.T) {
	for _, w := range wrongs {
		checkTold(t, list(w.f, short(7), short(5)), w.e)
		checkTold(t, list(short(1), w.f, short(7), short(5)), w.e)
		checkTold(t, list(short(7), w.f, short(5)), w.e)
		checkTold(t, list(short(7), w.f), w.e)
		checkTold(t, list(short(7), short(5), w.f), api.ErrForm)
		checkTold(t, list(short(7), short(5), short(9), w.f), api.ErrForm)
		checkTold(t, list(short(1), short(7), short(5), w.f, short(2)), api.ErrForm)
		q := append(rising(13), short(7), short(5), w.f)
		checkTold(t, q, api.ErrForm)
		q[0] = w.f
		checkTold(t, q, w.e)
	}
}

// ladder has frames each of whose names comes ahead of the next one's, as can be
// seen by hand: of one number of 11 bits data goes first, then Remote, then what
// is Long and begins so.
var ladder = []api.Frame{
	short(0, 9),
	remote(short(0), 8),
	long(0, 1, 2),
	remote(long(0), 0),
	long(1),
	long(1<<18 - 1),
	remote(long(1<<18-1), 3),
	fast(short(1, make([]byte, 64)...)),
	remote(short(1), 0),
	fast(long(1<<18, make([]byte, 12)...)),
	long(1<<18 + 1),
	short(2),
	short(1023),
	long(1023<<18 + 5),
	short(1024),
	short(2046),
	remote(short(2046), 1),
	long(2046<<18 + 1<<18 - 1),
	short(2047, 1, 2, 3, 4, 5, 6, 7, 8),
	remote(short(2047), 8),
	long(2047 << 18),
	long(api.MaxLong),
	remote(long(api.MaxLong), 8),
}

func TestNames(t *testing.T) {
	checkTold(t, ladder[:16], api.OK)
	checkTold(t, ladder[len(ladder)-16:], api.OK)
	for i, a := range ladder {
		for j, b := range ladder {
			want := api.OK
			pair := list(a, b)
			if i > j {
				want = api.ErrForm
				pair = list(b, a)
			}
			checkTold(t, list(a, b), want)
			if q, e := Put(list(a), b); !alike(q, pair) || e != api.OK {
				t.Errorf("Put(%v, %v): %v %d, want %v", a, b, q, e, pair)
			}
			if q, n, e := Merge(list(a), list(b)); !alike(q, pair) || n != 0 || e != api.OK {
				t.Errorf("Merge(%v, %v): %v %d %d, want %v", a, b, q, n, e, pair)
			}
			if i == j {
				pair = list(b)
			}
			if q, e := Renew(list(a), b); !alike(q, pair) || e != api.OK {
				t.Errorf("Renew(%v, %v): %v %d, want %v", a, b, q, e, pair)
			}
		}
	}
}

// TestNamesAlike: what a name doesn't tell doesn't count.
func TestNamesAlike(t *testing.T) {
	for _, c := range [][]api.Frame{
		{short(5), short(5, 1, 2), fast(short(5)), fast(short(5, make([]byte, 64)...))},
		{long(5), long(5, 1, 2), fast(long(5)), fast(long(5, make([]byte, 64)...))},
		{remote(short(5), 0), remote(short(5), 8), remote(short(5), 3)},
		{remote(long(5), 0), remote(long(5), 8), remote(long(5), 3)},
	} {
		for _, a := range c {
			for _, b := range c {
				checkTold(t, list(a, b, a), api.OK)
				if q, e := Put(list(a), b); !alike(q, list(a, b)) || e != api.OK {
					t.Errorf("Put(%v, %v): %v %d, want it behind", a, b, q, e)
				}
				if q, e := Renew(list(a), b); !alike(q, list(b)) || e != api.OK {
					t.Errorf("Renew(%v, %v): %v %d, want it alone", a, b, q, e)
				}
				if q, n, e := Merge(list(a), list(b)); !alike(q, list(a, b)) || n != 0 || e != api.OK {
					t.Errorf("Merge(%v, %v): %v %d %d, want it behind", a, b, q, n, e)
				}
			}
		}
	}
}

func TestPut(t *testing.T) {
	for _, c := range []struct {
		q    []api.Frame
		f    api.Frame
		want []api.Frame
	}{
		{nil, short(5), list(short(5))},
		{list(), long(5, 1), list(long(5, 1))},
		{list(short(5)), short(4), list(short(4), short(5))},
		{list(short(5)), short(5, 1), list(short(5), short(5, 1))},
		{list(short(5)), short(6), list(short(5), short(6))},
		{list(short(5), short(7)), short(4), list(short(4), short(5), short(7))},
		{list(short(5), short(7)), short(6), list(short(5), short(6), short(7))},
		{list(short(5), short(7)), short(8), list(short(5), short(7), short(8))},
		{list(short(5), short(7)), short(5, 1), list(short(5), short(5, 1), short(7))},
		{list(short(5), short(7)), short(7, 1), list(short(5), short(7), short(7, 1))},
		{list(short(4), short(5, 1), short(5, 2), short(6)), short(5, 3), list(short(4), short(5, 1), short(5, 2), short(5, 3), short(6))},
		{list(short(5, 1), short(5, 2)), fast(short(5, 0)), list(short(5, 1), short(5, 2), fast(short(5, 0)))},
		{list(short(5), long(5<<18)), remote(short(5), 2), list(short(5), remote(short(5), 2), long(5<<18))},
		{list(long(5), short(5)), long(5<<18 + 1), list(long(5), short(5), long(5<<18+1))},
		{list(short(5), short(6)), long(5, 1), list(long(5, 1), short(5), short(6))},
		{rising(15), short(1), append(list(short(1)), rising(15)...)},
		{rising(15), short(2000), append(rising(15), short(2000))},
		{rising(15), short(75), slices.Insert(rising(15), 7, short(75))},
		{rising(15), short(70), slices.Insert(rising(15), 7, short(70))},
	} {
		if q, e := Put(c.q, c.f); !alike(q, c.want) || e != api.OK {
			t.Errorf("Put(%v, %v): %v %d, want %v", c.q, c.f, q, e, c.want)
		}
	}
}

func TestRenew(t *testing.T) {
	three := list(short(4), short(5, 1), short(5, 2), short(5, 3), short(6))
	for _, c := range []struct {
		q    []api.Frame
		f    api.Frame
		want []api.Frame
	}{
		{nil, short(5), list(short(5))},
		{list(short(5, 1)), short(5, 2), list(short(5, 2))},
		{list(short(5, 1)), fast(short(5)), list(fast(short(5)))},
		{list(short(5, 1)), remote(short(5), 2), list(short(5, 1), remote(short(5), 2))},
		{list(remote(short(5), 2)), short(5, 1), list(short(5, 1), remote(short(5), 2))},
		{list(remote(short(5), 2)), remote(short(5), 3), list(remote(short(5), 3))},
		{list(short(5, 1)), long(5, 2), list(long(5, 2), short(5, 1))},
		{list(short(5, 1)), long(5<<18, 2), list(short(5, 1), long(5<<18, 2))},
		{list(long(5, 1)), long(5, 2, 3), list(long(5, 2, 3))},
		{three, short(5, 9), list(short(4), short(5, 9), short(5, 2), short(5, 3), short(6))},
		{three, short(4, 9), list(short(4, 9), short(5, 1), short(5, 2), short(5, 3), short(6))},
		{three, short(6, 9), list(short(4), short(5, 1), short(5, 2), short(5, 3), short(6, 9))},
		{three, short(3), append(list(short(3)), three...)},
		{three, short(7), append(three[:5:5], short(7))},
		{list(short(5, 1), short(5, 2)), short(5, 3), list(short(5, 3), short(5, 2))},
		{rising(15), short(75), slices.Insert(rising(15), 7, short(75))},
	} {
		if q, e := Renew(c.q, c.f); !alike(q, c.want) || e != api.OK {
			t.Errorf("Renew(%v, %v): %v %d, want %v", c.q, c.f, q, e, c.want)
		}
	}
}

// TestWrongFrame: a right queue, and a wrong f.
func TestWrongFrame(t *testing.T) {
	for _, w := range wrongs {
		for _, n := range []int{0, 1, 2, 15, 16} {
			put, e := Put(rising(n), w.f)
			renew, eRenew := Renew(rising(n), w.f)
			if put != nil || renew != nil || e != w.e || eRenew != w.e {
				t.Errorf("%d and %v: Put %v %d, Renew %v %d, want none, %d", n, w.f, put, e, renew, eRenew, w.e)
			}
		}
	}
}

func TestFull(t *testing.T) {
	full := rising(16)
	for _, f := range append(list(short(0), short(1), short(75), short(2000), long(10), remote(short(10), 1)), full...) {
		if q, e := Put(full, f); q != nil || e != api.ErrFull {
			t.Errorf("Put(full, %v): %v %d, want none, %d", f, q, e, api.ErrFull)
		}
	}
	for _, f := range list(short(0), short(75), short(2000), long(10), remote(short(10), 1), long(10<<18)) {
		if q, e := Renew(full, f); q != nil || e != api.ErrFull {
			t.Errorf("Renew(full, %v): %v %d, want none, %d", f, q, e, api.ErrFull)
		}
	}
	for i := range full {
		f := fast(short(full[i].ID, 1, 2, 3))
		want := rising(16)
		want[i] = f
		if q, e := Renew(full, f); !alike(q, want) || e != api.OK {
			t.Errorf("Renew(full, %v): %v %d, want %v", f, q, e, want)
		}
	}
}

func TestTake(t *testing.T) {
	for _, none := range [][]api.Frame{nil, list()} {
		if f, rest, e := Take(none); !isNothing(f) || rest != nil || e != api.ErrWho {
			t.Errorf("Take of none: %v %v %d, want nothing, %d", f, rest, e, api.ErrWho)
		}
	}
	for _, q := range [][]api.Frame{
		list(short(5, 1)), list(remote(long(7), 2)), rising(2), rising(15), rising(16), ladder[:16],
		list(short(5, 1), short(5, 2)), list(fast(short(5, 2)), short(5, 1), short(6)),
	} {
		if f, rest, e := Take(q); !frame.Same(f, q[0]) || !alike(rest, q[1:]) || e != api.OK {
			t.Errorf("Take(%v): %v %v %d, want the first and the others", q, f, rest, e)
		}
	}
}

func TestMerge(t *testing.T) {
	same := func(n int, f api.Frame) []api.Frame { return slices.Repeat(list(f), n) }
	for _, c := range []struct {
		a, b, want []api.Frame
		left       int
	}{
		{nil, nil, nil, 0},
		{list(), nil, nil, 0},
		{nil, rising(1), rising(1), 0},
		{rising(1), nil, rising(1), 0},
		{nil, rising(16), rising(16), 0},
		{rising(16), nil, rising(16), 0},
		{list(short(5)), list(short(4)), list(short(4), short(5)), 0},
		{list(short(5)), list(short(6)), list(short(5), short(6)), 0},
		// of one name, a's go first, and then b's in their order
		{list(short(5, 1)), list(short(5, 2)), list(short(5, 1), short(5, 2)), 0},
		{list(short(5, 2)), list(short(5, 1)), list(short(5, 2), short(5, 1)), 0},
		{list(short(4), short(5, 4), short(5, 3), short(6, 1)), list(short(5, 2), short(5, 1), short(6)), list(short(4), short(5, 4), short(5, 3), short(5, 2), short(5, 1), short(6, 1), short(6)), 0},
		{list(short(1), short(3), short(5)), list(short(0), short(2), short(4), short(6)), list(short(0), short(1), short(2), short(3), short(4), short(5), short(6)), 0},
		{list(long(5<<18), short(6)), list(short(5), remote(short(5), 0)), list(short(5), remote(short(5), 0), long(5<<18), short(6)), 0},
		// just so many as there is room for, and one more
		{same(8, short(5)), same(8, short(4)), append(same(8, short(4)), same(8, short(5))...), 0},
		{same(15, short(5)), same(1, short(4)), append(same(1, short(4)), same(15, short(5))...), 0},
		{same(1, short(5)), same(15, short(4)), append(same(15, short(4)), same(1, short(5))...), 0},
		{same(9, short(5)), same(8, short(4)), append(same(8, short(4)), same(8, short(5))...), 1},
		{same(8, short(5)), same(9, short(4)), append(same(9, short(4)), same(7, short(5))...), 1},
		{same(16, short(5)), same(1, short(4)), append(same(1, short(4)), same(15, short(5))...), 1},
		{same(16, short(5)), same(1, short(6)), same(16, short(5)), 1},
		{same(1, short(6)), same(16, short(5)), same(16, short(5)), 1},
		{same(16, short(5, 1)), same(1, short(5, 2)), same(16, short(5, 1)), 1},
		{same(1, short(5, 1)), same(16, short(5, 2)), append(same(1, short(5, 1)), same(15, short(5, 2))...), 1},
		{append(same(15, short(5)), short(7)), list(short(6)), append(same(15, short(5)), short(6)), 1},
		// two full ones
		{same(16, short(5, 1)), same(16, short(5, 2)), same(16, short(5, 1)), 16},
		{same(16, short(5)), same(16, short(4)), same(16, short(4)), 16},
		{append(same(8, short(1)), same(8, short(3))...), append(same(8, short(2)), same(8, short(4))...), append(same(8, short(1)), same(8, short(2))...), 16},
		{append(same(8, short(1)), same(8, short(3))...), append(same(3, short(2)), same(8, short(4))...), slices.Concat(same(8, short(1)), same(3, short(2)), same(5, short(3))), 11},
	} {
		if q, n, e := Merge(c.a, c.b); !alike(q, c.want) || n != c.left || e != api.OK {
			t.Errorf("Merge(%v, %v): %v %d %d, want %v %d", c.a, c.b, q, n, e, c.want, c.left)
		}
	}
}

// TestMergeWrong: of two wrong queues the first one's error is told.
func TestMergeWrong(t *testing.T) {
	type wrong struct {
		q []api.Frame
		e api.Errno
	}
	l := []wrong{{rising(17), api.ErrMany}, {list(short(7), short(5)), api.ErrForm}}
	for _, w := range wrongs {
		l = append(l, wrong{list(w.f), w.e}, wrong{list(short(1), short(2), w.f), w.e})
	}
	for _, a := range l {
		for _, b := range l {
			if q, n, e := Merge(a.q, b.q); q != nil || n != 0 || e != a.e {
				t.Errorf("Merge(%v, %v): %v %d %d, want none, %d", a.q, b.q, q, n, e, a.e)
			}
		}
	}
}

// roomy has the frames of q in memory of their own, each list with room behind it.
func roomy(q []api.Frame) []api.Frame {
	out := make([]api.Frame, 0, len(q)+3)
	for _, f := range q {
		f.Data = append(make([]byte, 0, len(f.Data)+3), f.Data...)
		out = append(out, f)
	}
	return out
}

// whole is all that a roomy queue has, what lies behind its lists too, as a text.
func whole(q []api.Frame) string {
	s := fmt.Sprint(len(q), cap(q))
	for _, f := range q[:cap(q)] {
		s += fmt.Sprint(f, f.Data[:cap(f.Data)])
	}
	return s
}

// scrawl changes all that q has.
func scrawl(q []api.Frame) {
	q = q[:cap(q)]
	for i := range q {
		scrawlData(q[i].Data)
		q[i] = short(999, 9, 9)
	}
}

func scrawlData(data []byte) {
	data = data[:cap(data)]
	for i := range data {
		data[i] ^= 255
	}
}

// answers are all queues that are told of q, f and r. Takes stand as the first
// frame and the others.
func answers(q, r []api.Frame, f api.Frame) [][]api.Frame {
	put, _ := Put(q, f)
	renew, _ := Renew(q, f)
	first, rest, _ := Take(q)
	merged, _, _ := Merge(q, r)
	return [][]api.Frame{put, renew, list(first), rest, merged}
}

// TestMemory: what is handed in stays as it is; what is answered shares nothing
// with it, nor with another part of the answer.
func TestMemory(t *testing.T) {
	shared := []byte{1, 2, 3}
	twins := list(short(5, shared...), short(5, shared...), short(6, shared...))
	for i := range twins {
		twins[i].Data = shared
	}
	for _, from := range [][]api.Frame{rising(1), rising(2), rising(15), rising(16), ladder[:16], twins} {
		for _, f := range list(short(10, 7), short(1, 7), short(2000, 7, 8), remote(short(5), 1), short(5, 7)) {
			q, r, g := roomy(from), roomy(rising(15)), roomy(list(f))
			before := whole(q) + whole(r) + whole(g)
			got := answers(q, r, g[0])
			if after := whole(q) + whole(r) + whole(g); Check(q) != api.OK || after != before {
				t.Fatalf("%v and %v became %v and %v", from, f, q, g)
			}
			want := answers(from, rising(15), f)
			scrawl(q)
			scrawl(r)
			scrawl(g)
			for i := range got {
				if !alike(got[i], want[i]) {
					t.Fatalf("%v and %v: answer %d changed with what was handed in: %v, want %v", from, f, i, got[i], want[i])
				}
				scrawl(got[i])
				if i+1 < len(got) && !alike(got[i+1], want[i+1]) {
					t.Fatalf("%v and %v: answer %d changed with another", from, f, i+1)
				}
			}
		}
	}
}

// TestMemoryWrong: what is wrong stays as it is, too.
func TestMemoryWrong(t *testing.T) {
	l := [][]api.Frame{rising(17), list(short(7, 1), short(5, 2)), list(short(5, 1), long(3, 2), short(-1, 3))}
	for _, w := range wrongs {
		l = append(l, list(w.f), list(short(0, 1), w.f, short(1, 2)))
	}
	for _, from := range l {
		q, g := roomy(from), roomy(from[len(from)-1:])
		before := whole(q) + whole(g)
		Check(q)
		answers(q, g, g[0])
		answers(g, q, g[0])
		if after := whole(q) + whole(g); after != before {
			t.Errorf("%v became %v", from, q)
		}
	}
}

// TestMemoryWithin: no two frames of an answer share their Data, even if those
// that were handed in did.
func TestMemoryWithin(t *testing.T) {
	data := []byte{1, 2, 3}
	f := api.Frame{ID: 5, Data: data}
	q := list(f, f, f)
	for i := range answers(q, q, f) {
		for at := range answers(q, q, f)[i] {
			got := answers(q, q, f)[i]
			scrawlData(got[at].Data)
			for j := range got {
				if (j != at) != frame.Same(got[j], f) {
					t.Errorf("answer %d: with the Data of %d that of %d changed: %v", i, at, j, got)
				}
			}
		}
	}
	first, rest, _ := Take(q)
	scrawlData(first.Data)
	if !alike(rest, q[1:]) || !frame.Same(q[0], f) {
		t.Errorf("with the first one's Data the others' changed: %v", rest)
	}
}

// place tells by numbers alone where a frame stands among others: its first 11
// bits; data ahead of Remote ahead of Long; then the other bits, and Remote.
func place(f api.Frame) [4]int {
	asks := 0
	if f.Remote {
		asks = 1
	}
	if f.Long {
		return [4]int{f.ID >> 18, 2, f.ID % (1 << 18), asks}
	}
	return [4]int{f.ID, asks}
}

// sorted has the frames by their places, those of one place as they stood.
func sorted(l []api.Frame) []api.Frame {
	out := slices.Clone(l)
	slices.SortStableFunc(out, func(a, b api.Frame) int {
		x, y := place(a), place(b)
		return slices.Compare(x[:], y[:])
	})
	return out
}

// random is a frame like few others, so that many have one name; mark tells it
// from these.
func random(r *rand.Rand, mark int) api.Frame {
	id := r.Intn(4)
	if r.Intn(2) == 0 {
		id += 1020
	}
	f := short(id, byte(mark>>8), byte(mark))
	if r.Intn(2) == 0 {
		f = long(id<<18+r.Intn(2), f.Data...)
	}
	switch r.Intn(4) {
	case 0:
		f.Data = nil
		f = remote(f, mark%9)
	case 1:
		f = fast(f)
	}
	return f
}

// randoms has n of them.
func randoms(r *rand.Rand, n int) []api.Frame {
	var l []api.Frame
	for i := range n {
		l = append(l, random(r, i))
	}
	return l
}

// putAll puts frames into a queue of none, one after the other.
func putAll(t *testing.T, l []api.Frame) []api.Frame {
	t.Helper()
	var q []api.Frame
	for i, f := range l {
		next, e := Put(q, f)
		if want := sorted(l[:i+1]); !alike(next, want) || e != api.OK || Check(next) != api.OK {
			t.Fatalf("Put(%v, %v): %v %d, want %v", q, f, next, e, want)
		}
		q = next
	}
	return q
}

// TestPutAndTake: what is taken comes by its name and, of one name, as it was
// put; nothing is lost.
func TestPutAndTake(t *testing.T) {
	r := rand.New(rand.NewSource(8))
	for range 400 {
		l := randoms(r, r.Intn(api.MaxQueue+1))
		q := putAll(t, l)
		for _, want := range sorted(l) {
			f, rest, e := Take(q)
			if !frame.Same(f, want) || len(rest) != len(q)-1 || e != api.OK {
				t.Fatalf("Take(%v): %v %v %d, want %v", q, f, rest, e, want)
			}
			q = rest
		}
		if _, _, e := Take(q); e != api.ErrWho {
			t.Fatalf("%v: %d, want %d when all are taken", l, e, api.ErrWho)
		}
	}
}

// TestPutOrTake: the same, as frames come and go, and some find no room.
func TestPutOrTake(t *testing.T) {
	r := rand.New(rand.NewSource(9))
	var q, waits []api.Frame
	full := 0
	for i := range 20000 {
		if len(waits) > 0 && r.Intn(5) < 2 {
			f, rest, e := Take(q)
			if !frame.Same(f, sorted(waits)[0]) || e != api.OK {
				t.Fatalf("Take(%v): %v %d, want the first of %v", q, f, e, waits)
			}
			at := slices.IndexFunc(waits, func(g api.Frame) bool { return frame.Same(f, g) })
			q, waits = rest, slices.Delete(waits, at, at+1)
			continue
		}
		f := random(r, i)
		next, e := Put(q, f)
		if len(waits) == api.MaxQueue {
			full++
			if next != nil || e != api.ErrFull {
				t.Fatalf("Put(%v, %v): %v %d, want none, %d", q, f, next, e, api.ErrFull)
			}
			continue
		}
		q, waits = next, append(waits, f)
		if !alike(q, sorted(waits)) || e != api.OK {
			t.Fatalf("Put of %v: %v %d, want %v", f, q, e, sorted(waits))
		}
	}
	if full < 100 {
		t.Errorf("the queue was full %d times only", full)
	}
}

// TestRenewMany holds Renew against a second way: the first of its place by
// number, or one more.
func TestRenewMany(t *testing.T) {
	r := rand.New(rand.NewSource(10))
	for range 2000 {
		q := sorted(randoms(r, r.Intn(api.MaxQueue+1)))
		f := random(r, 1000)
		want, wantError := slices.Clone(q), api.OK
		at := slices.IndexFunc(q, func(g api.Frame) bool { return place(f) == place(g) })
		switch {
		case at >= 0:
			want[at] = f
		case len(q) == api.MaxQueue:
			want, wantError = nil, api.ErrFull
		default:
			want = sorted(append(want, f))
		}
		if got, e := Renew(q, f); !alike(got, want) || e != wantError {
			t.Fatalf("Renew(%v, %v): %v %d, want %v %d", q, f, got, e, want, wantError)
		}
	}
}

// TestMergeMany: what is answered, with so many others, are all of both.
func TestMergeMany(t *testing.T) {
	r := rand.New(rand.NewSource(11))
	for range 2000 {
		both := randoms(r, r.Intn(2*api.MaxQueue+1))
		low, high := max(len(both)-api.MaxQueue, 0), min(len(both), api.MaxQueue)
		at := low + r.Intn(high-low+1)
		a, b := sorted(both[:at]), sorted(both[at:])
		all := sorted(append(slices.Clone(a), b...))
		most := min(len(all), api.MaxQueue)
		q, n, e := Merge(a, b)
		if !alike(q, all[:most]) || n != len(all)-most || e != api.OK || Check(q) != api.OK {
			t.Fatalf("Merge(%v, %v): %v %d %d, want %v %d", a, b, q, n, e, all[:most], len(all)-most)
		}
	}
}

// TestCheckMany holds Check against a second way: are the frames sorted?
func TestCheckMany(t *testing.T) {
	r := rand.New(rand.NewSource(12))
	for range 3000 {
		q := randoms(r, r.Intn(api.MaxQueue+1))
		if r.Intn(2) == 0 {
			q = sorted(q)
		}
		want := api.ErrForm
		if alike(q, sorted(q)) {
			want = api.OK
		}
		if e := Check(q); e != want {
			t.Fatalf("Check(%v): %d, want %d", q, e, want)
		}
	}
}
