package sched

import (
	"math"
	"slices"
	"testing"

	"omnibus/api"
	"omnibus/delay"
)

const tooMuch = api.MaxTime + 1

// extremes are numbers that neither a first, an end nor a number of a task may be.
var extremes = []int{-1, math.MinInt, math.MinInt32, math.MaxInt, 1 << 32, tooMuch}

// task is one with so many bytes and so much Jitter.
func task(id, bytes, every, jitter int) api.Task {
	return api.Task{ID: id, Bytes: bytes, Every: every, Late: api.MaxTime, Jitter: jitter}
}

// list is a list of tasks, written shortly.
func list(l ...api.Task) []api.Task { return l }

// ints is a list of numbers, written shortly.
func ints(l ...int) []int { return l }

// many has n tasks that may be, each third one without Jitter.
func many(n int) []api.Task {
	var l []api.Task
	for i := range n {
		l = append(l, task(3*i+1, i%9, 5000+i, i%3*7))
	}
	return l
}

// plays holds what Play tells against what it should.
func plays(t *testing.T, l []api.Task, first, later []int, end int, want ...api.Slot) {
	t.Helper()
	got, e := Play(l, first, later, end)
	if e != api.OK || !slices.Equal(got, want) {
		t.Errorf("%v %v %v %d: %v %d, want %v", l, first, later, end, got, e, want)
	}
}

// fails holds the error of Play against one; all else must be zero.
func fails(t *testing.T, l []api.Task, first, later []int, end int, want api.Errno) {
	t.Helper()
	if got, e := Play(l, first, later, end); e != want || got != nil {
		t.Errorf("%v %v %v %d: %v %d, want %d", l, first, later, end, got, e, want)
	}
}

// succeeds holds how many slots Play tells against what it should.
func succeeds(t *testing.T, l []api.Task, first, later []int, end, want int) {
	t.Helper()
	if got, e := Play(l, first, later, end); e != api.OK || len(got) != want {
		t.Errorf("%v %v %v %d: %d slots, %d, want %d", l, first, later, end, len(got), e, want)
	}
}

// waits holds what Waits tells against what it should.
func waits(t *testing.T, l []api.Task, s []api.Slot, want ...int) {
	t.Helper()
	if got, e := Waits(l, s); e != api.OK || !slices.Equal(got, want) {
		t.Errorf("%v %v: %v %d, want %v", l, s, got, e, want)
	}
}

// waitsFail holds the error of Waits against one; all else must be zero.
func waitsFail(t *testing.T, l []api.Task, s []api.Slot, want api.Errno) {
	t.Helper()
	if got, e := Waits(l, s); e != want || got != nil {
		t.Errorf("%v %v: %v %d, want %d", l, s, got, e, want)
	}
}

// badLists have each of the errors of chapter 15's Check.
func badLists() [][]api.Task {
	out := [][]api.Task{many(api.MaxMessages + 1), many(100), list(task(5, 1, 700, 0), task(5, 1, 700, 0)), list(task(6, 1, 700, 0), task(5, 1, 700, 0))}
	for _, n := range extremes {
		late := task(1, 1, 1, 0)
		late.Late = n
		out = append(out, list(late), list(task(n, 1, 700, 0)), list(task(1, n, 700, 0)), list(task(1, 1, n, 0)), list(task(1, 1, 700, n)), list(task(0, 1, 700, 0), task(1, n, 700, 0)))
	}
	return append(out, list(task(2048, 1, 700, 0)), list(task(1, 9, 700, 0)), list(task(1, 1, 0, 0)), list(task(1, 1, 700, 700)), list(task(1, 1, 1, 1)))
}

// TestTaskErrors: chapter 15's Check's error comes first, whatever else is wrong.
func TestTaskErrors(t *testing.T) {
	for _, l := range badLists() {
		want := delay.Check(l)
		if want == api.OK {
			t.Errorf("%v may be", l)
		}
		fails(t, l, make([]int, len(l)), nil, 100, want)
		fails(t, l, nil, nil, 100, want)
		fails(t, l, slices.Repeat(ints(-1), len(l)), ints(-1), -1, want)
		fails(t, l, slices.Repeat(ints(-1), len(l)+1), make([]int, api.MaxBits+1), tooMuch, want)
		waitsFail(t, l, nil, want)
		waitsFail(t, l, []api.Slot{{Task: -1, Asked: -1, End: math.MaxInt}}, want)
	}
}

// TestLengths: how many numbers first and later may have, and what end may be.
func TestLengths(t *testing.T) {
	for _, n := range []int{0, 1, 2, 19, api.MaxMessages} {
		l := many(n)
		succeeds(t, l, make([]int, n), nil, 5000, n)
		fails(t, l, make([]int, n+1), nil, 5000, api.ErrMany)
		if n > 0 {
			fails(t, l, make([]int, n-1), nil, 5000, api.ErrMany)
			fails(t, l, nil, nil, 5000, api.ErrMany)
		}
		for _, later := range [][]int{nil, {}, make([]int, 1), make([]int, api.MaxBits-1), make([]int, api.MaxBits)} {
			succeeds(t, l, make([]int, n), later, 5000, n)
		}
		for _, more := range []int{1, 2, api.MaxBits} {
			fails(t, l, make([]int, n), make([]int, api.MaxBits+more), 5000, api.ErrMany)
		}
		for _, end := range extremes {
			fails(t, l, make([]int, n), nil, end, api.ErrMany)
		}
	}
	l := list(task(1, 8, 700000, 0))
	succeeds(t, l, ints(0), nil, 0, 0)
	succeeds(t, l, ints(0), nil, 1, 1)
	succeeds(t, l, ints(0), nil, api.MaxTime, 2)
	succeeds(t, l, ints(299999), nil, api.MaxTime, 2)
	succeeds(t, l, ints(300000), nil, api.MaxTime, 1)
	succeeds(t, nil, nil, nil, 0, 0)
	succeeds(t, nil, nil, nil, api.MaxTime, 0)
	succeeds(t, nil, []int{}, ints(-1), 5, 0)
}

// TestFirst: when a task may begin.
func TestFirst(t *testing.T) {
	const end = 500
	one, two := list(task(1, 8, 5000, 0)), list(task(1, 8, 5000, 0), task(2, 8, 5000, 9))
	for _, n := range extremes {
		for _, to := range []int{0, end, api.MaxTime} {
			fails(t, one, ints(n), nil, to, api.ErrRange)
			fails(t, two, ints(n, 0), nil, to, api.ErrRange)
			fails(t, two, ints(0, n), nil, to, api.ErrRange)
		}
	}
	plays(t, one, ints(0), nil, end, api.Slot{Task: 0, Asked: 0, From: 0, End: 135})
	plays(t, one, ints(end-1), nil, end, api.Slot{Task: 0, Asked: 499, From: 499, End: 634})
	plays(t, one, ints(end), nil, end)
	plays(t, one, ints(end+1), nil, end)
	plays(t, one, ints(api.MaxTime), nil, end)
	plays(t, one, ints(api.MaxTime-1), nil, api.MaxTime, api.Slot{Task: 0, Asked: 999999, From: 999999, End: 1000134})
	plays(t, one, ints(api.MaxTime), nil, api.MaxTime)
	plays(t, two, ints(api.MaxTime, 7), nil, end, api.Slot{Task: 1, Asked: 7, From: 7, End: 142})
	plays(t, list(task(1, 8, 700, 699)), ints(499), ints(699), end, api.Slot{Task: 0, Asked: 499, From: 1198, End: 1333}) // end is nothing to what goes
}

// TestBits: just so many messages, and one more.
func TestBits(t *testing.T) {
	const n = api.MaxBits
	one := list(task(1, 0, 1, 0))
	succeeds(t, one, ints(0), nil, n, n)
	fails(t, one, ints(0), nil, n+1, api.ErrMany)
	fails(t, one, ints(0), nil, api.MaxTime, api.ErrMany)
	succeeds(t, one, ints(7), nil, n+7, n)
	fails(t, one, ints(6), nil, n+7, api.ErrMany)
	succeeds(t, list(task(1, 8, 1000, 999)), ints(0), ints(999), api.MaxTime, n)
	fails(t, list(task(1, 8, 999, 998)), ints(0), ints(998), api.MaxTime, api.ErrMany)
	two := list(task(1, 0, 1, 0), task(2, 0, 1, 0))
	succeeds(t, two, ints(100, 500), nil, 800, n)
	fails(t, two, ints(99, 500), nil, 800, api.ErrMany)
	fails(t, two, ints(100, 499), nil, 800, api.ErrMany)
	succeeds(t, two, ints(0, n), nil, n, n)
	fails(t, two, ints(0, n-1), nil, n, api.ErrMany)
	fails(t, two, ints(n, 0), nil, n+1, api.ErrMany)
	all := slices.Repeat(ints(0), api.MaxMessages)
	var l []api.Task
	for i := range api.MaxMessages {
		l = append(l, task(i, i%9, 1, 0))
	}
	succeeds(t, l, all, nil, n/api.MaxMessages, n)
	fails(t, l, all, nil, n/api.MaxMessages+1, api.ErrMany)
	all[7] = 1
	succeeds(t, l, all, nil, n/api.MaxMessages, n-1)
}

// TestBelow: a number of later below 0 counts when it is met, and only then.
func TestBelow(t *testing.T) {
	l := list(task(1, 8, 700, 9))
	for _, n := range []int{-1, -9, -10, -20, math.MinInt32, math.MinInt} {
		fails(t, l, ints(0), ints(n), 1, api.ErrRange)
		fails(t, l, ints(0), ints(1, 2, n), 1401, api.ErrRange)
		succeeds(t, l, ints(0), ints(1, 2, n), 1400, 2)
		succeeds(t, l, ints(0), ints(1, 2, 3, n), 1401, 3)
		succeeds(t, l, ints(0), ints(n), 0, 0)
		succeeds(t, l, ints(7), ints(n), 7, 0)
		never := list(task(1, 8, 700, 0), task(2, 8, 700, 0))
		succeeds(t, never, ints(0, 0), ints(n, n), 701, 4)
		mixed := list(task(1, 8, 700, 0), task(2, 8, 700, 9), task(3, 8, 700, 0), task(4, 8, 700, 1))
		succeeds(t, mixed, ints(0, 0, 0, 0), ints(1, 1, 1, 1, n), 701, 8)
		fails(t, mixed, ints(0, 0, 0, 0), ints(1, 1, 1, n), 701, api.ErrRange)
		succeeds(t, mixed, ints(0, 0, 0, 1), ints(1, 1, 1, n), 701, 7)
	}
}

// TestFirstError: which error is told of two.
func TestFirstError(t *testing.T) {
	const n = api.MaxBits
	one := list(task(1, 0, 1, 0))
	fails(t, one, ints(-1), nil, -1, api.ErrMany)
	fails(t, one, ints(-1), make([]int, n+1), 5, api.ErrMany)
	fails(t, one, ints(-1, 0), nil, 5, api.ErrMany)
	fails(t, one, ints(0, -1), nil, 5, api.ErrMany)
	// In one task: its first ahead of all messages, a message that was met ahead of
	// one that is too many.
	fails(t, one, ints(-1), nil, api.MaxTime, api.ErrRange)
	fails(t, one, ints(tooMuch), nil, api.MaxTime, api.ErrRange)
	late := list(task(1, 0, 2, 1))
	fails(t, late, ints(0), append(make([]int, n-1), -1), 2*n+1, api.ErrRange)
	fails(t, late, ints(0), make([]int, n), 2*n+1, api.ErrMany)
	fails(t, late, ints(0), ints(-1), 2*n+1, api.ErrRange)
	// In two: the first task's.
	two := list(task(1, 0, 1, 0), task(2, 0, 2, 1))
	fails(t, two, ints(0, -1), nil, n+1, api.ErrMany)
	fails(t, two, ints(0, -1), nil, n, api.ErrRange)
	fails(t, two, ints(0, tooMuch), nil, n+1, api.ErrMany)
	fails(t, two, ints(0, 0), ints(-1), n+1, api.ErrMany)
	fails(t, two, ints(-1, 0), nil, n+1, api.ErrRange)
	// Of a message that is one too many, its number of later is told first.
	fails(t, two, ints(0, 0), ints(-1), n, api.ErrRange)
	fails(t, two, ints(0, 0), ints(0), n, api.ErrMany)
	fails(t, two, ints(1, 0), ints(0, -1), n, api.ErrRange) // the second task's second one is
	fails(t, two, ints(1, 0), ints(0, 0, -1), n, api.ErrMany)
	swapped := list(task(1, 0, 2, 1), task(2, 0, 1, 0))
	fails(t, swapped, ints(0, 0), ints(0, -1), n+1, api.ErrRange)
	fails(t, swapped, ints(0, 0), ints(0), n+1, api.ErrMany)
	fails(t, swapped, ints(0, -1), ints(0), n+1, api.ErrRange)
}
