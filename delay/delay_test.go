package delay

import (
	"math"
	"slices"
	"testing"

	"omnibus/api"
)

// task is one with so many bytes, without Jitter, that may wait for long.
func task(id, bytes, every int) api.Task {
	return api.Task{ID: id, Bytes: bytes, Every: every, Late: api.MaxTime}
}

// jitter is x with so much of it.
func jitter(x api.Task, n int) api.Task {
	x.Jitter = n
	return x
}

// late is x if it may wait for so long.
func late(x api.Task, n int) api.Task {
	x.Late = n
	return x
}

// list is a list of tasks, written shortly.
func list(l ...api.Task) []api.Task { return l }

// many has n tasks that may be.
func many(n int) []api.Task {
	var l []api.Task
	for i := range n {
		l = append(l, jitter(task(3*i+1, i%9, 5000+i), i))
	}
	return l
}

// checkAll holds the error of each call against want; with an error, all else
// must be zero.
func checkAll(t *testing.T, l []api.Task, want api.Errno) {
	t.Helper()
	e := Check(l)
	n, eLoad := Load(l)
	s, eWorst := Worst(l)
	if e != want || eLoad != want || eWorst != want {
		t.Errorf("%v: Check %d, Load %d, Worst %d, want %d", l, e, eLoad, eWorst, want)
	}
	if want != api.OK && (n != 0 || s != nil) {
		t.Errorf("%v: beside the error %d %v, want nothing", l, n, s)
	}
	if want == api.OK && len(s) != len(l) {
		t.Errorf("%v: %d stops of %d tasks", l, len(s), len(l))
	}
}

// rights are tasks that may be, at the edges.
var rights = []api.Task{
	{ID: 0, Every: 1},
	{ID: 2047, Every: 1},
	{ID: 5, Every: 1000000},
	{ID: 5, Every: 1000000, Jitter: 999999},
	{ID: 5, Every: 1, Jitter: 0},
	{ID: 5, Every: 2, Jitter: 1},
	{ID: 5, Every: 700, Jitter: 699},
	{ID: 5, Every: 700, Late: 1000000},
	{ID: 5, Every: 1, Late: 1000000},
	{ID: 5, Every: 700, Bytes: 8},
	{ID: 0, Bytes: 0, Every: 1, Late: 0, Jitter: 0},
	{ID: 2047, Bytes: 8, Every: 1000000, Late: 1000000, Jitter: 999999},
}

// wrongs are tasks with one number that may not be.
func wrongs() []api.Task {
	good := api.Task{ID: 5, Bytes: 4, Every: 700, Late: 600, Jitter: 9}
	var l []api.Task
	add := func(change func(x *api.Task, n int), numbers ...int) {
		for _, n := range append(numbers, -1, math.MinInt, math.MaxInt, math.MinInt32, 1<<32) {
			x := good
			change(&x, n)
			l = append(l, x)
		}
	}
	add(func(x *api.Task, n int) { x.ID = n }, 2048, 536870911)
	add(func(x *api.Task, n int) { x.Bytes = n }, 9, 12, 64)
	add(func(x *api.Task, n int) { x.Every = n }, 0, 1000001)
	add(func(x *api.Task, n int) { x.Every, x.Jitter = n, 0 }, 0, 1000001)
	add(func(x *api.Task, n int) { x.Late = n }, 1000001)
	add(func(x *api.Task, n int) { x.Jitter = n }, 700, 701, 1000000)
	add(func(x *api.Task, n int) { x.Every, x.Jitter = 1, n }, 1, 2)
	add(func(x *api.Task, n int) { x.Every, x.Jitter = 1000000, n }, 1000000, 1000001)
	return l
}

// hasGoodID tells whether it is something else that is wrong with one of wrongs.
func hasGoodID(x api.Task) bool { return x.ID == 5 }

// with is l with x at a place, under the ID that was there, unless it is x's ID
// that is wrong.
func with(l []api.Task, at int, x api.Task) []api.Task {
	if hasGoodID(x) {
		x.ID = l[at].ID
	}
	l[at] = x
	return l
}

func TestCheck(t *testing.T) {
	checkAll(t, nil, api.OK)
	checkAll(t, []api.Task{}, api.OK)
	for _, n := range []int{1, 2, 19, api.MaxMessages} {
		checkAll(t, many(n), api.OK)
	}
	for _, n := range []int{api.MaxMessages + 1, 22, 100, 682} {
		checkAll(t, many(n), api.ErrMany)
	}
	for _, x := range rights {
		checkAll(t, list(x), api.OK)
	}
	for _, x := range wrongs() {
		checkAll(t, list(x), api.ErrRange)
		for _, n := range []int{2, 3, api.MaxMessages} {
			for _, at := range []int{0, n / 2, n - 1} {
				checkAll(t, with(many(n), at, x), api.ErrRange)
			}
		}
	}
}

// TestCheckOrder: each ID is above the one ahead.
func TestCheckOrder(t *testing.T) {
	ids := func(l ...int) []api.Task {
		var out []api.Task
		for _, id := range l {
			out = append(out, task(id, 1, 700))
		}
		return out
	}
	for _, l := range [][]int{{0}, {2047}, {0, 1}, {0, 2047}, {2046, 2047}, {5, 6, 7}, {1, 100, 1000}} {
		checkAll(t, ids(l...), api.OK)
	}
	for _, l := range [][]int{{0, 0}, {2047, 2047}, {1, 0}, {2047, 0}, {6, 5}, {5, 6, 6}, {5, 5, 6}, {5, 7, 6}, {6, 5, 7}, {7, 6, 5}, {5, 9, 3, 4}} {
		checkAll(t, ids(l...), api.ErrForm)
	}
	down := many(api.MaxMessages)
	slices.Reverse(down)
	checkAll(t, down, api.ErrForm)
	last := many(api.MaxMessages)
	last[19].ID = last[18].ID
	checkAll(t, last, api.ErrForm)
}

// TestCheckFirst: which error is told of two.
func TestCheckFirst(t *testing.T) {
	low := task(1, 1, 700)
	for _, x := range wrongs() {
		// In one task: a wrong number ahead of an ID that isn't above.
		if hasGoodID(x) {
			checkAll(t, list(task(5, 1, 700), x), api.ErrRange)
			checkAll(t, list(task(6, 1, 700), x), api.ErrRange)
			checkAll(t, list(task(6, 1, 700), x, low), api.ErrRange)
		}
		// In two: the first task's.
		checkAll(t, list(x, low), api.ErrRange)
		checkAll(t, list(task(6, 1, 700), low, x), api.ErrForm)
		checkAll(t, list(low, low, x), api.ErrForm)
		checkAll(t, list(x, low, low), api.ErrRange)
		// Beside too many.
		for _, at := range []int{0, 7, api.MaxMessages} {
			checkAll(t, with(many(api.MaxMessages+1), at, x), api.ErrMany)
		}
	}
	checkAll(t, slices.Repeat(list(low), api.MaxMessages+1), api.ErrMany)
	checkAll(t, slices.Repeat(list(low), api.MaxMessages), api.ErrForm)
	checkAll(t, slices.Repeat(list(api.Task{}), api.MaxMessages+1), api.ErrMany)
	checkAll(t, slices.Repeat(list(api.Task{}), api.MaxMessages), api.ErrRange)
}

func TestLoad(t *testing.T) {
	every := func(n int) []api.Task {
		var l []api.Task
		for i := range api.MaxMessages {
			l = append(l, task(i, 8, n))
		}
		return l
	}
	for _, x := range []struct {
		l    []api.Task
		want int
	}{
		{nil, 0},
		{list(), 0},
		{list(task(1, 8, 1000)), 135000},
		{list(task(1, 8, 135)), 1000000},
		{list(task(1, 8, 134)), 1007463},
		{list(task(1, 8, 136)), 992648},
		{list(jitter(late(task(1, 8, 1000), 0), 999)), 135000}, // neither counts
		{list(task(1, 0, 100000)), 550},
		{list(task(1, 1, 100000)), 650},
		{list(task(1, 2, 100000)), 750},
		{list(task(1, 3, 100000)), 850},
		{list(task(1, 4, 100000)), 950},
		{list(task(1, 5, 100000)), 1050},
		{list(task(1, 6, 100000)), 1150},
		{list(task(1, 7, 100000)), 1250},
		{list(task(1, 0, 1)), 55000000},
		{list(task(1, 8, 1)), 135000000},
		{list(task(1, 0, 1000000)), 55},
		{list(task(1, 8, 1000000)), 135},
		{list(task(1, 0, 27)), 2037038}, // 55000000 is 27 * 2037037 + 1
		{list(task(1, 0, 49)), 1122449}, // 55000000 is 49 * 1122449 - 1
		{list(task(1, 8, 2389)), 56509}, // 135000000 is 2389 * 56509 - 1
		{list(task(1, 8, 999999)), 136}, // 135 and a little
		{every(999999), 20 * 136},       // each by itself
		{every(1000000), 20 * 135},      // nothing to round
		{every(1), 20 * 135000000},      // the most there is
		{list(task(1, 8, 270), task(2, 8, 270)), 1000000},
		{list(task(1, 8, 337), task(2, 8, 473), task(3, 8, 473)), 400594 + 285413 + 285413},
	} {
		if n, e := Load(x.l); n != x.want || e != api.OK {
			t.Errorf("%v: %d %d, want %d", x.l, n, e, x.want)
		}
	}
}
