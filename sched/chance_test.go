package sched

import (
	"cmp"
	"math"
	"math/rand"
	"slices"
	"testing"

	"omnibus/api"
	"omnibus/delay"
)

// count is how many of is hold.
func count(is ...bool) int {
	n := 0
	for _, x := range is {
		if x {
			n++
		}
	}
	return n
}

// loads are parts of the bus's time that tasks ask for.
var loads = []float64{0.2, 0.6, 0.9, 0.97, 0.99, 0.998, 1, 1.002, 1.01, 1.5}

// Ways in which tasks by chance have Jitter.
const (
	none = iota
	little
	much
	mixed // with some tasks that have none
	kinds
)

// someTasks has n tasks by chance, which ask for a part of the bus's time.
func someTasks(r *rand.Rand, n int, part float64, kind int) []api.Task {
	weights, all := make([]float64, n), 0.0
	for i := range weights {
		weights[i] = 0.05 + r.Float64()
		all += weights[i]
	}
	var l []api.Task
	for i, id := range slices.Sorted(slices.Values(r.Perm(api.MaxID + 1)[:n])) {
		x := api.Task{ID: id, Bytes: r.Intn(9), Late: r.Intn(5000)}
		x.Every = min(api.MaxTime, int(float64(takesNow(x.Bytes))*all/weights[i]/part)+r.Intn(2))
		switch {
		case kind == little:
			x.Jitter = r.Intn(1 + x.Every/20)
		case kind == much || kind == mixed && r.Intn(2) == 0:
			x.Jitter = r.Intn(x.Every)
		}
		l = append(l, x)
	}
	return l
}

// someLater has n numbers by chance, of all sizes.
func someLater(r *rand.Rand, n int) []int {
	out := make([]int, n)
	for i := range out {
		out[i] = r.Int() >> r.Intn(63)
	}
	return out
}

// someFirst has n times below to by chance, sometimes all the same one.
func someFirst(r *rand.Rand, n, to int) []int {
	out := make([]int, n)
	same := r.Intn(4) == 0
	for i := range out {
		out[i] = r.Intn(to)
		if same {
			out[i] = out[0]
		}
	}
	return out
}

// plain is Play, tick by tick: first who is to ask when, then the bus.
func plain(l []api.Task, first, later []int, end int) ([]api.Slot, api.Errno) {
	asked, all, met := map[int][]api.Slot{}, 0, 0
	for i, x := range l {
		if first[i] < 0 || first[i] > api.MaxTime {
			return nil, api.ErrRange
		}
		for tick := range end {
			if tick < first[i] || (tick-first[i])%x.Every != 0 {
				continue
			}
			at := tick
			if x.Jitter > 0 && len(later) > 0 {
				n := later[met%len(later)]
				if n < 0 {
					return nil, api.ErrRange
				}
				at, met = at+n%(x.Jitter+1), met+1
			}
			if all++; all > api.MaxBits {
				return nil, api.ErrMany
			}
			asked[at] = append(asked[at], api.Slot{Task: i, Asked: tick})
		}
	}
	return ride(l, asked, all), api.OK
}

// ride has so many messages, which are asked for at ticks, in the order in which
// they go, tick by tick.
func ride(l []api.Task, asked map[int][]api.Slot, all int) []api.Slot {
	var waiting, out []api.Slot
	for tick, left := 0, 0; len(out) < all; tick++ {
		waiting = append(waiting, asked[tick]...)
		left = max(0, left-1)
		if left > 0 || len(waiting) == 0 {
			continue
		}
		next := slices.MinFunc(waiting, func(a, b api.Slot) int {
			return cmp.Or(cmp.Compare(a.Task, b.Task), cmp.Compare(a.Asked, b.Asked))
		})
		waiting = slices.DeleteFunc(waiting, func(x api.Slot) bool { return x == next })
		left = takesNow(l[next.Task].Bytes)
		next.From, next.End = tick, tick+left
		out = append(out, next)
	}
	return out
}

// longest is Waits of s, which Play told.
func longest(l []api.Task, s []api.Slot) []int {
	out := make([]int, len(l))
	for i := range l {
		for _, x := range s {
			if x.Task == i {
				out[i] = max(out[i], x.End-x.Asked)
			}
		}
	}
	return out
}

// holds tells of Play whether it tells what plain does, and of Waits of it.
func holds(t *testing.T, l []api.Task, first, later []int, end int) ([]api.Slot, api.Errno) {
	t.Helper()
	got, e := Play(l, first, later, end)
	want, wantErr := plain(l, first, later, end)
	if e != wantErr || !slices.Equal(got, want) || e != api.OK && got != nil {
		t.Fatalf("%v %v %v %d: %v %d, want %v %d", l, first, later, end, got, e, want, wantErr)
	}
	if w, e := Waits(l, got); e != api.OK || !slices.Equal(w, longest(l, want)) {
		t.Fatalf("%v %v: waits %v %d, want %v", l, got, w, e, longest(l, want))
	}
	return got, e
}

// TestPlain: Play tells the same as one that goes through the time tick by tick.
func TestPlain(t *testing.T) {
	r := rand.New(rand.NewSource(16))
	seen := [api.ErrLost + 1]int{}
	pairs, rests := 0, 0
	for n := range 4000 {
		l := someTasks(r, r.Intn(api.MaxMessages+1), loads[n%len(loads)], r.Intn(kinds))
		end := r.Intn(20000)
		first, later := someFirst(r, len(l), 1+min(api.MaxTime, 2*end)), someLater(r, []int{0, 1, 3, r.Intn(50), api.MaxBits}[r.Intn(5)])
		if len(l) > 0 && r.Intn(9) == 0 {
			first[r.Intn(len(l))] = extremes[r.Intn(len(extremes))]
		}
		if len(later) > 0 && r.Intn(9) == 0 {
			later[r.Intn(len(later))] = -1 - r.Intn(99)
		}
		got, e := holds(t, l, first, later, end)
		seen[e]++
		for i := 1; i < len(got); i++ {
			pairs += count(got[i].Asked < got[i-1].Asked)
			rests += count(got[i].From > got[i-1].End)
		}
	}
	if min(seen[api.OK], seen[api.ErrRange], pairs, rests) < 500 {
		t.Errorf("too few of a kind: %v %d %d", seen, pairs, rests)
	}
}

// TestPlainMany: as above, for tasks that ask for about as many messages as they
// may, and over all of the time.
func TestPlainMany(t *testing.T) {
	r := rand.New(rand.NewSource(160))
	seen := [api.ErrLost + 1]int{}
	for n := range 300 {
		l := someTasks(r, 1+r.Intn(6), loads[n%len(loads)], r.Intn(kinds))
		end := endOf(l, api.MaxBits) + r.Intn(400)
		first := someFirst(r, len(l), 300)
		later := someLater(r, r.Intn(api.MaxBits+1))
		if len(later) > 0 && n%3 == 0 {
			later[len(later)-1] = -1
		}
		_, e := holds(t, l, first, later, min(api.MaxTime, end))
		seen[e]++
	}
	for range 40 {
		l := someTasks(r, 1+r.Intn(api.MaxMessages), 0.05, r.Intn(kinds))
		for i := range l {
			l[i].Every = max(l[i].Jitter+1, api.MaxTime/(1+r.Intn(60)))
		}
		_, e := holds(t, l, someFirst(r, len(l), api.MaxTime), someLater(r, r.Intn(20)), api.MaxTime-r.Intn(2))
		seen[e]++
	}
	if min(seen[api.OK], seen[api.ErrRange], seen[api.ErrMany]) < 30 {
		t.Errorf("too few of a kind: %v", seen)
	}
}

// asks is how many messages tasks that begin at 0 ask for below end.
func asks(l []api.Task, end int) int {
	n := 0
	for _, x := range l {
		n += (end + x.Every - 1) / x.Every
	}
	return n
}

// endOf is the greatest end below which tasks that begin at 0 ask for at most n.
func endOf(l []api.Task, n int) int {
	low, high := 0, api.MaxTime
	for low < high {
		if mid := (low + high + 1) / 2; asks(l, mid) <= n {
			low = mid
		} else {
			high = mid - 1
		}
	}
	return low
}

// told is what Worst tells, of each task alone how long it waits.
func told(t *testing.T, l []api.Task) []int {
	t.Helper()
	s, e := delay.Worst(l)
	if e != api.OK {
		t.Fatalf("%v: %d", l, e)
	}
	var out []int
	for _, x := range s {
		out = append(out, x.Wait)
	}
	return out
}

// seen is how long the tasks of l wait in Play at most, which is no longer than
// told, and whether the bus rested behind a time.
func seen(t *testing.T, l []api.Task, first, later []int, end, behind int) ([]int, bool) {
	t.Helper()
	s, e := Play(l, first, later, end)
	if e != api.OK {
		t.Fatalf("%v %v %v %d: %d", l, first, later, end, e)
	}
	w, e := Waits(l, s)
	if e != api.OK {
		t.Fatalf("%v %v: %d", l, s, e)
	}
	for i, n := range told(t, l) {
		if n != -1 && w[i] > n {
			t.Fatalf("%v %v %v %d: %d of it waits for %d, told is %d", l, first, later, end, i, w[i], n)
		}
	}
	rested := false
	for i := 1; i < len(s); i++ {
		rested = rested || s[i].From > s[i-1].End && s[i-1].End > behind
	}
	return w, rested
}

// crowd has first and later with which the messages of l are asked for so that
// those of the last task wait for long: all at one time, which it tells, too, each
// first one as late as may be, and all behind it as early as may be. Those of the
// task early, if there is one, are asked for a tick ahead of that.
func crowd(l []api.Task, end, early int) (first, later []int, at int) {
	for _, x := range l {
		at = max(at, x.Jitter+1)
	}
	for i, x := range l {
		from := at - x.Jitter
		if i == early {
			from--
		}
		first = append(first, from)
		for due := from; due < end && x.Jitter > 0; due += x.Every {
			later = append(later, count(due == from)*x.Jitter)
		}
	}
	return first, later, at
}

// TestNoneLonger: whenever the tasks begin, and however late their messages are,
// none waits longer than Worst tells.
func TestNoneLonger(t *testing.T) {
	r := rand.New(rand.NewSource(163))
	long, near := 0, 0
	for n := range 1500 {
		l := someTasks(r, 1+r.Intn(api.MaxMessages), loads[n%len(loads)], r.Intn(kinds))
		end := endOf(l, api.MaxBits)
		wait := told(t, l)
		for range 4 {
			w, _ := seen(t, l, someFirst(r, len(l), 1+end/2), someLater(r, r.Intn(200)), end, 0)
			for i, x := range w {
				long += count(wait[i] != -1 && x > takesNow(l[i].Bytes)+l[i].Jitter)
			}
		}
		load, _ := delay.Load(l)
		near += count(load > 990000 && load < 1010000)
	}
	if min(long, near) < 300 {
		t.Errorf("too few of a kind: %d %d", long, near)
	}
}

// TestMet: a message of the last task waits as long as Worst tells, if all ask
// together; one of another task waits a tick less at most, for what is behind it
// must have begun ahead of it.
func TestMet(t *testing.T) {
	r := rand.New(rand.NewSource(164))
	met, near, laterOnes, blocked := 0, 0, 0, 0
	for n := range 4000 {
		l := someTasks(r, 1+r.Intn(8), loads[n%len(loads)], r.Intn(kinds))
		end := endOf(l, api.MaxBits)
		last := len(l) - 1
		wait := told(t, l)
		first, later, at := crowd(l, end, -1)
		w, rested := seen(t, l, first, later, end, at)
		if wait[last] != -1 && rested && w[last] != wait[last] {
			t.Fatalf("%v: the last one waits for %d, told is %d", l, w[last], wait[last])
		}
		is := wait[last] != -1 && rested
		load, _ := delay.Load(l)
		met += count(is)
		near += count(is && load > 990000 && load < 1010000)
		laterOnes += count(is && wait[last] > l[last].Every+l[last].Jitter)
		first, later, at = crowd(l, end, last)
		w, _ = seen(t, l, first, later, end, at)
		for i := range last {
			blocked += count(w[i] == wait[i]-1)
			if wait[i] != -1 && w[i] >= wait[i] {
				t.Fatalf("%v: %d of it waits for %d, told is %d", l, i, w[i], wait[i])
			}
		}
	}
	if min(met, near, laterOnes, blocked) < 100 {
		t.Errorf("too few of a kind: %d %d %d %d", met, near, laterOnes, blocked)
	}
}

// TestMetOnce: by numbers; of the last task it is the second message that waits
// longest.
func TestMetOnce(t *testing.T) {
	l := list(task(1, 8, 337, 0), task(2, 8, 473, 0), task(3, 8, 473, 0))
	s, e := Play(l, ints(0, 0, 0), nil, 946)
	if want := slot(2, 473, 810, 945); e != api.OK || !slices.Contains(s, want) {
		t.Errorf("%v %d, want %v", s, e, want)
	}
	waits(t, l, s, 203, 270, 472)
	if got := told(t, l); !slices.Equal(got, ints(270, 405, 472)) {
		t.Errorf("told is %v", got)
	}
}

// TestAnything: no call panics, whatever it is given.
func TestAnything(t *testing.T) {
	r := rand.New(rand.NewSource(1))
	numbers := append(ints(0, 1, 2, 5, 8, 100, api.MaxBits, api.MaxID, api.MaxTime, math.MaxInt-1), extremes...)
	number := func() int { return numbers[r.Intn(len(numbers))] }
	some := func() []int {
		var out []int
		for range r.Intn(4) {
			out = append(out, number())
		}
		return out
	}
	for range 20000 {
		var l []api.Task
		for i := range r.Intn(4) {
			x := task(i, r.Intn(9), 1000, r.Intn(1000))
			for range r.Intn(2) * r.Intn(3) {
				*[]*int{&x.ID, &x.Bytes, &x.Every, &x.Late, &x.Jitter}[r.Intn(5)] = number()
			}
			l = append(l, x)
		}
		if s, e := Play(l, some(), some(), number()); e == api.OK {
			if _, e := Waits(l, s); e != api.OK {
				t.Fatalf("%v %v: %d", l, s, e)
			}
		}
		var s []api.Slot
		for range r.Intn(3) {
			s = append(s, slot(number(), number(), number(), number()))
		}
		if w, e := Waits(l, s); e == api.OK && (len(w) != len(l) || slices.ContainsFunc(w, func(n int) bool { return n < 0 })) {
			t.Fatalf("%v %v: %v", l, s, w)
		}
	}
}
