package sched

import (
	"slices"
	"testing"

	"omnibus/api"
)

// roomy is l with spare room behind it that is marked, and all of that room.
func roomy[T any](l []T, mark T) (out, all []T) {
	all = append(append(make([]T, 0, len(l)+3), l...), mark, mark, mark)
	return all[:len(l)], all
}

// fill makes all of l marks.
func fill[T any](l []T, mark T) {
	for i := range l {
		l[i] = mark
	}
}

var (
	taskMark = api.Task{ID: 77, Bytes: 77, Every: 77, Late: 77, Jitter: 77}
	slotMark = api.Slot{Task: 77, Asked: 77, From: 77, End: 77}
)

// TestPlayMemory: what is handed in to Play isn't changed, nor the room behind it;
// what is answered is new memory.
func TestPlayMemory(t *testing.T) {
	for _, x := range []struct {
		l            []api.Task
		first, later []int
		end          int
	}{
		{nil, nil, nil, 100},
		{many(1), ints(5), nil, 20000},
		{many(3), ints(0, 7, 9), ints(1, 2, 3), 20000},
		{many(20), make([]int, 20), ints(100, 1, 50, 7, 9), 30000},
		{many(20), make([]int, 20), make([]int, api.MaxBits), 100},
		{many(3), ints(0, 7, -1), ints(1), 20000},
		{many(3), ints(0, 7), ints(1), 20000},
		{many(3), ints(0, 7, 9), ints(1, -1), 20000},
		{list(task(1, 0, 1, 0)), ints(0), ints(1), 5000},
		{list(task(1, 9, 1, 0)), ints(0), ints(1), 5000},
	} {
		want, same := Play(x.l, x.first, x.later, x.end)
		l, tasks := roomy(x.l, taskMark)
		first, firsts := roomy(x.first, 77)
		later, laters := roomy(x.later, 77)
		tasksWere, firstsWere, latersWere := slices.Clone(tasks), slices.Clone(firsts), slices.Clone(laters)
		got, e := Play(l, first, later, x.end)
		if !slices.Equal(tasks, tasksWere) || !slices.Equal(firsts, firstsWere) || !slices.Equal(laters, latersWere) {
			t.Fatalf("%v: %v %v %v", x, tasks, firsts, laters)
		}
		fill(tasks, taskMark)
		fill(firsts, 77)
		fill(laters, 77)
		if e != same || !slices.Equal(got, want) {
			t.Fatalf("%v: %v %d, and then %v %d", x, want, same, got, e)
		}
		fill(got[:cap(got)], slotMark)
		if again, _ := Play(x.l, x.first, x.later, x.end); !slices.Equal(again, want) {
			t.Fatalf("%v: %v, and with another answer changed %v", x, want, again)
		}
	}
}

// TestWaitsMemory: the same of Waits.
func TestWaitsMemory(t *testing.T) {
	good := []api.Slot{slot(1, 10, 20, 30), slot(0, 5, 6, 70), slot(1, 3, 20, 30)}
	for _, x := range []struct {
		l []api.Task
		s []api.Slot
	}{
		{nil, nil},
		{many(3), nil},
		{many(3), good},
		{many(20), good},
		{many(1), good},
		{many(21), good},
		{many(3), append(slices.Clone(good), slot(1, -1, 2, 3))},
	} {
		want, same := Waits(x.l, x.s)
		l, tasks := roomy(x.l, taskMark)
		s, slots := roomy(x.s, slotMark)
		tasksWere, slotsWere := slices.Clone(tasks), slices.Clone(slots)
		got, e := Waits(l, s)
		if !slices.Equal(tasks, tasksWere) || !slices.Equal(slots, slotsWere) {
			t.Fatalf("%v: %v %v", x, tasks, slots)
		}
		fill(tasks, taskMark)
		fill(slots, slotMark)
		if e != same || !slices.Equal(got, want) {
			t.Fatalf("%v: %v %d, and then %v %d", x, want, same, got, e)
		}
		fill(got[:cap(got)], 77)
		if again, _ := Waits(x.l, x.s); !slices.Equal(again, want) {
			t.Fatalf("%v: %v, and with another answer changed %v", x, want, again)
		}
	}
}
