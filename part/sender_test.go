package part

import (
	"bytes"
	"math"
	"testing"

	"omnibus/api"
)

func sameSender(a, b api.Sender) bool {
	return bytes.Equal(a.Data, b.Data) && a.At == b.At && a.Next == b.Next && a.Left == b.Left && a.Done == b.Done
}

// zeroSender: is s zero, its list not even an empty one?
func zeroSender(s api.Sender) bool { return s.Data == nil && sameSender(s, api.Sender{}) }

// place is how far a sender may have come.
type place struct{ at, next int }

// placesOf are all places of a message of n bytes, one after the other.
func placesOf(n int) []place {
	if n < 8 {
		return []place{{n, 1}}
	}
	l := []place{{6, 1}}
	for at := 6; at < n; {
		at = min(at+7, n)
		next := l[len(l)-1].next + 1
		if next == 16 {
			next = 0
		}
		l = append(l, place{at, next})
	}
	return l
}

// at is the sender of data at a place.
func at(data []byte, p place, left int) api.Sender {
	s := api.Sender{Data: data, At: p.at, Next: p.next, Left: left, Done: p.at == len(data)}
	if s.Done {
		s.Left = 0
	}
	return s
}

func TestBegin(t *testing.T) {
	for n := 1; n <= api.MaxMessage; n++ {
		data := mixed(n, int64(n))
		want := api.Sender{Data: data, At: 6, Next: 1, Left: -1}
		if n <= 7 {
			want = api.Sender{Data: data, At: n, Next: 1, Left: 0, Done: true}
		}
		s, p, e := Begin(data)
		if !sameSender(s, want) || !bytes.Equal(p, partsOf(data)[0]) || e != api.OK {
			t.Errorf("Begin(%x): %+v %x %d, want %+v", data, s, p, e, want)
		}
		if e := CheckSender(s); e != api.OK {
			t.Errorf("CheckSender(%+v): %d", s, e)
		}
	}
}

func TestBeginWrong(t *testing.T) {
	for want, l := range wrongData() {
		for _, data := range l {
			if s, p, e := Begin(data); !zeroSender(s) || p != nil || e != want {
				t.Errorf("Begin of %d bytes: %+v %x %d, want none, %d", len(data), s, p, e, want)
			}
		}
	}
}

// TestCheckSenderKnown: senders that are written out.
func TestCheckSenderKnown(t *testing.T) {
	tests := []struct {
		n, at, next, left int
		done              bool
		want              api.Errno
	}{
		{1, 1, 1, 0, true, api.OK},
		{7, 7, 1, 0, true, api.OK},
		{7, 7, 2, 0, true, api.ErrForm}, // up to 7 bytes: Next isn't 1
		{7, 7, 0, 0, true, api.ErrForm},
		{7, 6, 1, -1, false, api.ErrForm}, // and none is under way
		{7, 6, 1, 0, false, api.ErrForm},
		{7, 0, 1, 0, false, api.ErrForm},
		{7, 7, 1, 0, false, api.ErrForm},
		{7, 7, 1, -1, true, api.ErrForm}, // Left of one that is Done
		{7, 7, 1, 1, true, api.ErrForm},
		{8, 6, 1, -1, false, api.OK},
		{8, 6, 1, 0, false, api.OK},
		{8, 6, 1, 255, false, api.OK},
		{8, 6, 1, 0, true, api.ErrForm}, // Done, and At isn't all
		{8, 8, 2, 0, false, api.ErrForm},
		{8, 8, 2, 0, true, api.OK},
		{8, 8, 1, 0, true, api.ErrForm},
		{8, 8, 2, -1, true, api.ErrForm},
		{8, 8, 2, 255, true, api.ErrForm},
		{8, 7, 1, 0, false, api.ErrForm}, // At between whole parts
		{8, 7, 2, 0, false, api.ErrForm},
		{8, 0, 1, 0, false, api.ErrForm},
		{8, 0, 0, 0, false, api.ErrForm},
		{13, 13, 2, 0, true, api.OK},
		{14, 13, 2, 0, false, api.OK},
		{14, 13, 1, 0, false, api.ErrForm},
		{14, 14, 3, 0, true, api.OK},
		{14, 14, 2, 0, true, api.ErrForm},
		{119, 104, 15, 3, false, api.OK},
		{119, 111, 0, 3, false, api.OK},
		{119, 118, 1, 3, false, api.OK},
		{119, 119, 2, 0, true, api.OK},
		{118, 118, 1, 0, true, api.OK},
		{112, 111, 0, -1, false, api.OK},
		{111, 111, 0, 0, true, api.OK},
		{110, 110, 0, 0, true, api.OK},
		{300, 300, 11, 0, true, api.OK},
		{300, 293, 10, 0, false, api.OK},
		{8, -1, 1, 0, false, api.ErrRange},
		{8, 9, 2, 0, true, api.ErrRange},
		{8, 6, 1, -2, false, api.ErrRange},
		{8, 6, 1, 256, false, api.ErrRange},
		{8, 6, -1, 0, false, api.ErrRange},
		{8, 6, 16, 0, false, api.ErrRange},
		{112, 111, 16, 0, false, api.ErrRange},
		{8, 7, 16, 0, true, api.ErrRange}, // ahead of ErrForm
		{0, 0, 0, 0, true, api.ErrRange},
		{0, 0, 1, 0, true, api.ErrRange},
		{0, 0, 0, 0, false, api.ErrRange},
		{301, 301, 12, 0, true, api.ErrMany},
		{301, 6, 1, -1, false, api.ErrMany},
		{301, -1, 16, -2, false, api.ErrMany}, // ahead of ErrRange
		{301, 302, 1, 0, true, api.ErrMany},
		{301, 7, 1, 0, true, api.ErrMany}, // ahead of ErrForm
	}
	for _, x := range tests {
		s := api.Sender{Data: counted(x.n), At: x.at, Next: x.next, Left: x.left, Done: x.done}
		if e := CheckSender(s); e != x.want {
			t.Errorf("CheckSender of %+v: %d, want %d", x, e, x.want)
		}
	}
}

// senderError is what CheckSender must tell of s, found among all places.
func senderError(s api.Sender) api.Errno {
	n := len(s.Data)
	if n > api.MaxMessage {
		return api.ErrMany
	}
	if n == 0 || s.At < 0 || s.At > n || s.Left < -1 || s.Left > 255 || s.Next < 0 || s.Next > 15 {
		return api.ErrRange
	}
	for _, p := range placesOf(n) {
		if sameSender(s, at(s.Data, p, s.Left)) {
			return api.OK
		}
	}
	return api.ErrForm
}

// TestCheckSender: each At with each Next, each Left about its bounds, Done or not.
func TestCheckSender(t *testing.T) {
	far := []int{math.MinInt, math.MaxInt, 1 << 32, 1<<32 + 6, -1 << 32}
	lefts := append([]int{-3, -2, -1, 0, 1, 2, 254, 255, 256, 257}, far...)
	for _, n := range []int{0, 1, 2, 6, 7, 8, 13, 14, 20, 118, 119, 300, 301} {
		var ats, nexts []int
		for i := -2; i <= n+2; i++ {
			ats = append(ats, i)
		}
		for i := -2; i <= 17; i++ {
			nexts = append(nexts, i)
		}
		for _, a := range append(ats, far...) {
			for _, next := range append(nexts, far...) {
				for _, left := range lefts {
					for _, done := range []bool{false, true} {
						s := api.Sender{Data: counted(n), At: a, Next: next, Left: left, Done: done}
						if e, want := CheckSender(s), senderError(s); e != want {
							t.Fatalf("CheckSender(%+v): %d, want %d", s, e, want)
						}
					}
				}
			}
		}
	}
}

// wrongSenders are some of each of CheckSender's errors.
func wrongSenders() []api.Sender {
	return []api.Sender{
		{},
		{Done: true, Next: 1},
		{Data: counted(301), At: 6, Next: 1, Left: -1},
		{Data: counted(301), At: 6, Next: 1},
		{Data: counted(8), At: -1, Next: 1, Left: -1},
		{Data: counted(8), At: 9, Next: 2, Done: true},
		{Data: counted(8), At: 6, Next: 1, Left: -2},
		{Data: counted(8), At: 6, Next: 1, Left: 256},
		{Data: counted(8), At: 6, Next: 16},
		{Data: counted(8), At: 6, Next: -1, Left: -1},
		{Data: counted(8), At: 6, Next: 1, Done: true},
		{Data: counted(8), At: 8, Next: 2},
		{Data: counted(8), At: 8, Next: 2, Left: -1, Done: true},
		{Data: counted(8), At: 7, Next: 1, Left: -1},
		{Data: counted(8), At: 7, Next: 1},
		{Data: counted(8), At: 6, Next: 2, Left: -1},
		{Data: counted(8), At: 6, Next: 2},
		{Data: counted(7), At: 6, Next: 1, Left: -1},
		{Data: counted(7), At: 6, Next: 1},
		{Data: counted(7), At: 7, Next: 2, Done: true},
	}
}

// TestSenderFirst: CheckSender's error is told ahead of all that Told and Next tell.
func TestSenderFirst(t *testing.T) {
	for _, s := range wrongSenders() {
		want := senderError(s)
		if want == api.OK {
			t.Fatalf("%+v isn't wrong", s)
		}
		for _, p := range [][]byte{nil, {}, {0x30}, {0x30, 1}, {0x30, 1, 0}, {0x31, 0, 0}, {0x32, 0, 0}, {0x33, 0, 0}, {0x30, 1, 0, 0}} {
			if out, e := Told(s, p); !zeroSender(out) || e != want {
				t.Errorf("Told(%+v, %x): %+v %d, want none, %d", s, p, out, e, want)
			}
		}
		if out, p, e := Next(s); !zeroSender(out) || p != nil || e != want {
			t.Errorf("Next(%+v): %+v %x %d, want none, %d", s, out, p, e, want)
		}
	}
}

// someSenders are senders that may be: that wait, that don't, and that are Done.
func someSenders() []api.Sender {
	var l []api.Sender
	for _, n := range edges {
		data := mixed(n, int64(n))
		for _, p := range placesOf(n) {
			for _, left := range []int{-1, 0, 1, 2, 254, 255} {
				l = append(l, at(data, p, left))
			}
		}
	}
	return l
}

// checkTold holds Told against what it must tell; with an error, nothing else.
func checkTold(t *testing.T, s api.Sender, p []byte, left int, want api.Errno) {
	t.Helper()
	out, e := Told(s, p)
	if e != want {
		t.Fatalf("Told(%+v, %x): %d, want %d", s, p, e, want)
	}
	if want != api.OK {
		if !zeroSender(out) {
			t.Fatalf("Told(%+v, %x): %+v, want none", s, p, out)
		}
		return
	}
	after := s
	after.Left = left
	if !sameSender(out, after) {
		t.Fatalf("Told(%+v, %x): %+v, want %+v", s, p, out, after)
	}
}

// TestTold: each first and each second byte; the third is of no account.
func TestTold(t *testing.T) {
	waiting := at(counted(30), place{13, 2}, -1)
	for first := range 256 {
		for second := range 256 {
			p := []byte{byte(first), byte(second), byte(first * second)}
			switch first {
			case 0x30:
				checkTold(t, waiting, p, second, api.OK)
			case 0x31:
				checkTold(t, waiting, p, -1, api.OK)
			case 0x32:
				checkTold(t, waiting, p, 0, api.ErrFull)
			default:
				checkTold(t, waiting, p, 0, api.ErrForm)
			}
		}
	}
}

// TestToldSenders: those that wait are told, the others can't be.
func TestToldSenders(t *testing.T) {
	for _, s := range someSenders() {
		if s.Left == -1 {
			checkTold(t, s, []byte{0x30, 0, 0}, 0, api.OK)
			checkTold(t, s, []byte{0x30, 1, 0}, 1, api.OK)
			checkTold(t, s, []byte{0x30, 127, 255}, 127, api.OK)
			checkTold(t, s, []byte{0x30, 128, 1}, 128, api.OK)
			checkTold(t, s, []byte{0x30, 255, 0}, 255, api.OK)
			checkTold(t, s, []byte{0x31, 7, 9}, -1, api.OK)
			checkTold(t, s, []byte{0x32, 0, 0}, 0, api.ErrFull)
		} else {
			for _, first := range []byte{0x30, 0x31, 0x32} {
				checkTold(t, s, []byte{first, 0, 0}, 0, api.ErrLate)
				checkTold(t, s, []byte{first, 9, 0}, 0, api.ErrLate)
			}
		}
	}
}

// TestToldForm: what is no answer is told as that, ahead of ErrLate and ErrFull.
func TestToldForm(t *testing.T) {
	for _, s := range someSenders() {
		for _, first := range []byte{0x30, 0x31, 0x32} {
			for _, p := range [][]byte{nil, {}, {first}, {first, 0}, {first, 0, 0, 0}, {first, 0, 0, 0, 0, 0, 0, 0}, make([]byte, 1000)} {
				checkTold(t, s, p, 0, api.ErrForm)
			}
		}
		for _, first := range []byte{0, 1, 0x10, 0x20, 0x21, 0x2F, 0x33, 0x3F, 0x40, 0xB0, 0xFF} {
			checkTold(t, s, []byte{first, 1, 0}, 0, api.ErrForm)
		}
	}
}

// TestNextLate: one that waits or is Done sends nothing.
func TestNextLate(t *testing.T) {
	for _, s := range someSenders() {
		if s.Left != -1 && !s.Done {
			continue
		}
		if out, p, e := Next(s); !zeroSender(out) || p != nil || e != api.ErrLate {
			t.Errorf("Next(%+v): %+v %x %d, want none, %d", s, out, p, e, api.ErrLate)
		}
	}
}

// TestNextKnown: what Left becomes, and what the last part leaves.
func TestNextKnown(t *testing.T) {
	tests := []struct {
		n, at, next, left int
		want              api.Sender
		part              []byte
	}{
		{14, 6, 1, 0, api.Sender{At: 13, Next: 2, Left: 0}, []byte{0x21, 6, 7, 8, 9, 10, 11, 12}},
		{14, 6, 1, 1, api.Sender{At: 13, Next: 2, Left: -1}, []byte{0x21, 6, 7, 8, 9, 10, 11, 12}},
		{14, 6, 1, 2, api.Sender{At: 13, Next: 2, Left: 1}, []byte{0x21, 6, 7, 8, 9, 10, 11, 12}},
		{14, 6, 1, 3, api.Sender{At: 13, Next: 2, Left: 2}, []byte{0x21, 6, 7, 8, 9, 10, 11, 12}},
		{14, 6, 1, 255, api.Sender{At: 13, Next: 2, Left: 254}, []byte{0x21, 6, 7, 8, 9, 10, 11, 12}},
		{14, 13, 2, 0, api.Sender{At: 14, Next: 3, Done: true}, []byte{0x22, 13}},
		{14, 13, 2, 1, api.Sender{At: 14, Next: 3, Done: true}, []byte{0x22, 13}},
		{14, 13, 2, 2, api.Sender{At: 14, Next: 3, Done: true}, []byte{0x22, 13}},
		{14, 13, 2, 255, api.Sender{At: 14, Next: 3, Done: true}, []byte{0x22, 13}},
		{13, 6, 1, 1, api.Sender{At: 13, Next: 2, Done: true}, []byte{0x21, 6, 7, 8, 9, 10, 11, 12}},
		{13, 6, 1, 9, api.Sender{At: 13, Next: 2, Done: true}, []byte{0x21, 6, 7, 8, 9, 10, 11, 12}},
		{8, 6, 1, 0, api.Sender{At: 8, Next: 2, Done: true}, []byte{0x21, 6, 7}},
		{119, 104, 15, 1, api.Sender{At: 111, Next: 0, Left: -1}, []byte{0x2F, 104, 105, 106, 107, 108, 109, 110}},
		{119, 111, 0, 5, api.Sender{At: 118, Next: 1, Left: 4}, []byte{0x20, 111, 112, 113, 114, 115, 116, 117}},
		{111, 104, 15, 1, api.Sender{At: 111, Next: 0, Done: true}, []byte{0x2F, 104, 105, 106, 107, 108, 109, 110}},
		{300, 293, 10, 2, api.Sender{At: 300, Next: 11, Done: true}, []byte{0x2A, 37, 38, 39, 40, 41, 42, 43}},
	}
	for _, x := range tests {
		s := api.Sender{Data: counted(x.n), At: x.at, Next: x.next, Left: x.left}
		x.want.Data = s.Data
		out, p, e := Next(s)
		if !sameSender(out, x.want) || !bytes.Equal(p, x.part) || e != api.OK {
			t.Errorf("Next(%+v): %+v %x %d, want %+v %x", s, out, p, e, x.want, x.part)
		}
	}
}

// TestNextAll: from the beginning to the end, with each that may be told at first,
// the parts are Split's, and the sender waits where it must.
func TestNextAll(t *testing.T) {
	for _, n := range edges {
		data := mixed(n, int64(n))
		places, parts := placesOf(n), partsOf(data)
		for _, told := range []int{0, 1, 2, 3, 15, 16, 42, 254, 255} {
			s, _, _ := Begin(data)
			for i := 1; i < len(parts); i++ {
				if s.Left == -1 {
					s, _ = Told(s, []byte{0x30, byte(told), 0})
				}
				left := told
				if told != 0 {
					if left = told - i%told; i%told == 0 {
						left = -1
					}
				}
				want := at(data, places[i], left)
				out, p, e := Next(s)
				if !sameSender(out, want) || !bytes.Equal(p, parts[i]) || e != api.OK {
					t.Fatalf("Next(%+v): %+v %x %d, want %+v %x", s, out, p, e, want, parts[i])
				}
				if e := CheckSender(out); e != api.OK {
					t.Fatalf("CheckSender(%+v): %d", out, e)
				}
				s = out
			}
			if !s.Done || s.At != n || s.Left != 0 {
				t.Errorf("behind all parts of %d bytes: %+v", n, s)
			}
		}
	}
}

// TestSenderMemory: nothing that is handed in is changed, and what is answered
// shares nothing with it, or with itself.
func TestSenderMemory(t *testing.T) {
	for n := range api.MaxMessage + 2 {
		data := roomy(mixed(n, 4))
		same := kept(t, "Begin", data)
		s, p, _ := Begin(data)
		same()
		checkApart(t, "Begin", s.Data, p, data)
	}
	for _, s := range append(someSenders(), wrongSenders()...) {
		s.Data = roomy(s.Data)
		same := kept(t, "Next", s.Data)
		out, p, _ := Next(s)
		CheckSender(s)
		same()
		checkApart(t, "Next", out.Data, p, s.Data)
		for _, x := range [][]byte{nil, {0x30}, {0x30, 3, 0}, {0x31, 0, 0}, {0x32, 0, 0}, {0x33, 0, 0}} {
			x = roomy(x)
			sameData, samePart := kept(t, "Told", s.Data), kept(t, "Told", x)
			out, _ := Told(s, x)
			sameData()
			samePart()
			checkApart(t, "Told", out.Data, s.Data, x)
		}
	}
}
