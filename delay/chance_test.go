package delay

import (
	"math/rand"
	"slices"
	"testing"

	"omnibus/api"
)

const most200 = 200000 // ticks for which a bus may be busy, as the document has it

// ticks is what a message takes: the bits up to the sum, one put in behind each
// four of all but the first of them, ten bits, and three.
func ticks(x api.Task) int {
	n := 34 + 8*x.Bytes
	return n + (n-1)/4 + 10 + 3
}

// blocked is B of the task i of l.
func blocked(l []api.Task, i int) int {
	b := 0
	for _, x := range l[i+1:] {
		b = max(b, ticks(x))
	}
	return b
}

// lull is BUSY of the task i of l, for which each time up to a last one is tried;
// 0: it is none of these.
func lull(l []api.Task, i, last int) int {
	for t := blocked(l, i) + ticks(l[i]); t <= last; t++ {
		n := blocked(l, i)
		for _, x := range l[:i+1] {
			many := (t + x.Jitter) / x.Every
			if (t+x.Jitter)%x.Every > 0 {
				many++
			}
			n += ticks(x) * many
		}
		if n == t {
			return t
		}
	}
	return 0
}

// tried is Wait of the task i of l, by the document's words, each time being tried.
func tried(l []api.Task, i int) int {
	busy := lull(l, i, most200)
	if busy == 0 {
		return -1
	}
	x, wait := l[i], 0
	for q := 0; q*x.Every < busy+x.Jitter; q++ {
		w := blocked(l, i) + q*ticks(x)
		for {
			n := blocked(l, i) + q*ticks(x)
			for _, y := range l[:i] {
				n += ticks(y) * (1 + (w+y.Jitter)/y.Every)
			}
			if n == w {
				break
			}
			w++
		}
		wait = max(wait, x.Jitter+w-q*x.Every+ticks(x))
	}
	return wait
}

// sent is Wait of the task i of l, found by sending: the longest one behind has
// just begun, each task asks for its first message now, as late as it may, and for
// the others as early as it may.
func sent(l []api.Task, i int) int {
	done := make([]int, i+1)
	asked := func(k int) int { return max(0, done[k]*l[k].Every-l[k].Jitter) }
	time, wait := blocked(l, i), 0
	for first := true; time <= most200; first = false {
		next, waits := -1, first
		for k := i; k >= 0; k-- {
			if asked(k) <= time {
				next = k
			}
			waits = waits || asked(k) < time
		}
		if !waits {
			return wait
		}
		if time += ticks(l[next]); next == i {
			wait = max(wait, time-done[i]*l[i].Every+l[i].Jitter)
		}
		done[next]++
	}
	return -1
}

// someTasks has n tasks by chance, whose load comes near to a part of the bus's
// time.
func someTasks(r *rand.Rand, n int, part float64) []api.Task {
	ids := r.Perm(api.MaxID + 1)[:n]
	slices.Sort(ids)
	shares, all := make([]float64, n), 0.0
	for i := range shares {
		shares[i] = 0.02 + r.Float64()
		all += shares[i]
	}
	jitters := r.Intn(3)
	var l []api.Task
	for i, id := range ids {
		x := api.Task{ID: id, Bytes: r.Intn(9), Late: r.Intn(3000)}
		x.Every = min(api.MaxTime, int(float64(ticks(x))*all/shares[i]/part)+r.Intn(2))
		switch jitters {
		case 1:
			x.Jitter = r.Intn(x.Every)
		case 2:
			x.Jitter = r.Intn(1 + x.Every/10)
		}
		l = append(l, x)
	}
	return l
}

var parts = []float64{0.1, 0.5, 0.8, 0.9, 0.95, 0.98, 0.99, 0.995, 0.999, 0.9999, 1, 1.0001, 1.001, 1.01, 1.2, 3}

// TestSent: Worst tells what comes of it when the messages are sent.
func TestSent(t *testing.T) {
	r := rand.New(rand.NewSource(15))
	later, never, fits, near := 0, 0, 0, 0
	for n := range 6000 {
		l := someTasks(r, 1+r.Intn(api.MaxMessages), parts[n%len(parts)])
		if n%3 == 0 {
			l = l[:min(3, len(l))]
		}
		got, e := Worst(l)
		if e != api.OK || len(got) != len(l) {
			t.Fatalf("%v: %v %d", l, got, e)
		}
		for i, x := range got {
			want := sent(l, i)
			if x.Wait != want || x.Fits != (want != -1 && want <= l[i].Late) {
				t.Fatalf("%v: %d of it: %v, want %d", l, i, x, want)
			}
			later += count(want > l[i].Every)
			never += count(want == -1)
			fits += count(x.Fits)
		}
		load, _ := Load(l)
		near += count(load > 990000 && load < 1010000)
	}
	if min(later, never, fits, near) < 300 {
		t.Errorf("too few of a kind: %d %d %d %d", later, never, fits, near)
	}
}

func count(is bool) int {
	if is {
		return 1
	}
	return 0
}

// TestTried: Worst tells what the document's words say.
func TestTried(t *testing.T) {
	r := rand.New(rand.NewSource(51))
	for n := range 160 {
		l := someTasks(r, 1+r.Intn(6), parts[n%len(parts)])
		got := waits(t, l)
		for i := range l {
			if want := tried(l, i); got[i] != want {
				t.Fatalf("%v: %d of it: %d, want %d", l, i, got[i], want)
			}
		}
	}
}

// TestNoneLonger: whenever the tasks begin, and however their messages are late
// within Jitter, none waits longer than is told.
func TestNoneLonger(t *testing.T) {
	r := rand.New(rand.NewSource(105))
	nearly := 0
	for n := range 1500 {
		l := someTasks(r, 1+r.Intn(5), 0.4+0.6*r.Float64())
		told := waits(t, l)
		seen := ride(r, l, 20000)
		for i := range l {
			if told[i] != -1 && seen[i] > told[i] {
				t.Fatalf("%v, list %d: %d of it waited for %d, told was %d", l, n, i, seen[i], told[i])
			}
			nearly += count(seen[i] > 0 && seen[i]+2 >= told[i])
		}
	}
	if nearly < 100 {
		t.Errorf("only %d came near to what is told", nearly)
	}
}

// ride has the longest wait of each task of l on a bus, up to an end.
func ride(r *rand.Rand, l []api.Task, end int) []int {
	due, asked, longest := make([]int, len(l)), make([]int, len(l)), make([]int, len(l))
	ask := func(k, at int) { due[k], asked[k] = at, at+r.Intn(l[k].Jitter+1) }
	for k := range l {
		ask(k, r.Intn(min(l[k].Every, end)))
	}
	for time := 0; time < end; {
		k := slices.IndexFunc(asked, func(at int) bool { return at <= time })
		if k < 0 {
			time = slices.Min(asked)
			continue
		}
		time += ticks(l[k])
		longest[k] = max(longest[k], time-due[k])
		ask(k, due[k]+l[k].Every)
	}
	return longest
}

// TestMemory: no call changes what is handed in, nor the room behind it; what is
// answered is new memory.
func TestMemory(t *testing.T) {
	mark := api.Task{ID: 77, Bytes: 77, Every: 77, Late: 77, Jitter: 77}
	l := [][]api.Task{nil, many(1), many(3), many(api.MaxMessages), many(api.MaxMessages + 1), list(task(5, 1, 700), task(5, 1, 700)), list(task(1, 8, 134))}
	for _, x := range wrongs() {
		l = append(l, list(task(0, 1, 700), x))
	}
	for _, from := range l {
		room := append(append(make([]api.Task, 0, len(from)+3), from...), mark, mark, mark)
		whole, before := room[:len(from)], slices.Clone(room)
		Check(whole)
		Load(whole)
		got, e := Worst(whole)
		if !slices.Equal(room, before) {
			t.Fatalf("%v became %v", before, room)
		}
		want, same := Worst(from)
		for i := range room {
			room[i] = mark
		}
		if e != same || !slices.Equal(got, want) {
			t.Fatalf("%v: %v %d, and then %v %d", from, got, e, want, same)
		}
		for i := range got {
			got[i] = api.Stop{Wait: 77}
		}
		if again, _ := Worst(from); !slices.Equal(again, want) {
			t.Fatalf("%v: %v, and with another answer changed %v", from, want, again)
		}
	}
}
