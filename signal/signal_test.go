package signal

import (
	"math"
	"math/rand"
	"slices"
	"strings"
	"testing"

	"omnibus/api"
)

// plain is a signal that means its raw number, with so many bits from start on.
func plain(start, size int) api.Signal {
	return api.Signal{Name: "s", Start: start, Size: size, Mul: 1, Div: 1, Key: -1}
}

// back is one like it, with the bytes that count most first.
func back(start, size int) api.Signal {
	s := plain(start, size)
	s.Back = true
	return s
}

// signed makes a signal one with numbers below 0.
func signed(s api.Signal) api.Signal {
	s.Signed = true
	return s
}

// scaled gives a signal another meaning.
func scaled(s api.Signal, mul, div, add int) api.Signal {
	s.Mul, s.Div, s.Add = mul, div, add
	return s
}

// fractions are such as Raw takes, and such as it doesn't.
var fractions = [][2]int{{0, 1}, {1, 1}, {1, 3}, {1, 0}, {1 << 41, 1}, {math.MinInt, math.MinInt}, {math.MaxInt, math.MaxInt}}

// checkTold holds Check's error in so many bytes, and that of those which say it
// first, against want; with an error, all else must be zero.
func checkTold(t *testing.T, s api.Signal, size int, want api.Errno) {
	t.Helper()
	if e := Check(s, size); e != want {
		t.Errorf("Check(%+v, %d): %d, want %d", s, size, e, want)
	}
	if l, e := Places(s, size); e != want || (e != api.OK && l != nil) {
		t.Errorf("Places(%+v, %d): %v %d, want %d", s, size, l, e, want)
	}
	if size < 0 || size > 1000 {
		return
	}
	data := make([]byte, size)
	if raw, r, e := Read(s, data); e != want || (e != api.OK && (raw != 0 || r != api.Reading{})) {
		t.Errorf("Read(%+v, %d bytes): %d %+v %d, want %d", s, size, raw, r, e, want)
	}
	if want == api.OK {
		return
	}
	for _, f := range fractions {
		if out, e := Write(s, data, f[0], f[1]); out != nil || e != want {
			t.Errorf("Write(%+v, %d bytes, %v): %v %d, want none, %d", s, size, f, out, e, want)
		}
	}
}

// checkNumbers holds the error of a signal whose place is right against want, in
// any number of bytes and for calls that have no bytes, too.
func checkNumbers(t *testing.T, s api.Signal, want api.Errno) {
	t.Helper()
	checkTold(t, s, api.MaxBytes, want)
	if Over(s, s) != (want == api.OK) {
		t.Errorf("Over(%+v, itself): %v", s, want != api.OK)
	}
	if want == api.OK {
		return
	}
	checkTold(t, s, 0, want)
	for _, f := range fractions {
		if raw, e := Raw(s, f[0], f[1]); raw != 0 || e != want {
			t.Errorf("Raw(%+v, %v): %d %d, want 0, %d", s, f, raw, e, want)
		}
	}
	for _, good := range []api.Signal{plain(0, 40), back(7, 40)} {
		if Over(s, good) || Over(good, s) {
			t.Errorf("Over: %+v, though Check doesn't take it", s)
		}
	}
}

const letters = "abcdefghijklmnopqrstuvwxyzABCDEFGHIJKLMNOPQRSTUVWXYZ"
const digits = "0123456789"

func TestName(t *testing.T) {
	for s, want := range map[string]bool{
		"": false, "a": true, "Z": true, "a1": true, "A1b2": true, "aa": true,
		"1": false, "1a": false, "_": false, "_a": false, "a_": false, "a_b": false,
		" ": false, " a": false, "a ": false, "a b": false, "a\n": false, "a\x00": false, "\x00": false,
		"é": false, "aé": false, "éa": false, "ß1": false, "a\x80": false, "\xff": false, "a\xffb": false, "aß": false, "ａ": false, "a１": false,
		strings.Repeat("a", 15): true, strings.Repeat("Z", 16): true, "b" + strings.Repeat("9", 15): true,
		strings.Repeat("a", 17): false, "b" + strings.Repeat("9", 16): false, strings.Repeat("a", 16) + "_": false,
		strings.Repeat("a", 15) + "_": false, strings.Repeat("a", 15) + "\xe1": false, strings.Repeat("a", 100000): false,
		strings.Repeat("é", 8): false,
	} {
		if Name(s) != want {
			t.Errorf("Name(%q): %v", s, !want)
		}
		signal := plain(0, 1)
		signal.Name = s
		wantError := api.OK
		if !want {
			wantError = api.ErrText
		}
		checkNumbers(t, signal, wantError)
	}
}

// TestNameBytes: each byte, alone, first, in the midst and last.
func TestNameBytes(t *testing.T) {
	for c := range 256 {
		b := string([]byte{byte(c)})
		letter := strings.Contains(letters, b)
		either := letter || strings.Contains(digits, b)
		if Name(b) != letter || Name(b+"a") != letter || Name(b+strings.Repeat("a", 15)) != letter {
			t.Errorf("byte %d first: %v", c, !letter)
		}
		if Name("a"+b) != either || Name("a"+b+"a") != either || Name(strings.Repeat("a", 15)+b) != either {
			t.Errorf("byte %d behind others: %v", c, !either)
		}
		if Name(strings.Repeat("a", 16) + b) {
			t.Errorf("byte %d as the 17th", c)
		}
	}
}

func TestCheckBytes(t *testing.T) {
	for _, s := range []api.Signal{plain(0, 1), back(0, 1)} {
		for size, want := range map[int]api.Errno{
			math.MinInt: api.ErrRange, -1: api.ErrRange, 0: api.ErrShort, 1: api.OK, 2: api.OK, 63: api.OK, 64: api.OK,
			65: api.ErrRange, 128: api.ErrRange, math.MaxInt: api.ErrRange, math.MaxInt / 8: api.ErrRange, math.MinInt / 8: api.ErrRange,
			1 << 61: api.ErrRange, 1<<61 + 1: api.ErrRange,
		} {
			checkTold(t, s, size, want)
		}
	}
}

// field is a number of a signal, with what it may be.
type field struct {
	name        string
	set         func(s *api.Signal, n int)
	good, wrong []int
}

var fields = []field{
	{"Size", func(s *api.Signal, n int) { s.Size = n }, []int{1, 2, 39, 40}, []int{0, -1, 41, 64, math.MinInt, math.MaxInt}},
	{"Mul", func(s *api.Signal, n int) { s.Mul = n }, []int{1, -1, 2, 1000000, -1000000}, []int{0, 1000001, -1000001, math.MinInt, math.MaxInt}},
	{"Div", func(s *api.Signal, n int) { s.Div = n }, []int{1, 2, 1000000}, []int{0, -1, -2, -1000000, 1000001, math.MinInt, math.MaxInt}},
	{"Add", func(s *api.Signal, n int) { s.Add = n }, []int{0, 1, -1, 1000000, -1000000}, []int{1000001, -1000001, math.MinInt, math.MaxInt}},
	{"Key", func(s *api.Signal, n int) { s.Key = n }, []int{-1, 0, 1, 254, 255}, []int{-2, 256, math.MinInt, math.MaxInt}},
}

func TestCheckNumbers(t *testing.T) {
	for _, f := range fields {
		for _, base := range []api.Signal{plain(0, 1), back(7, 40), signed(plain(100, 12))} {
			for _, n := range f.good {
				f.set(&base, n)
				checkNumbers(t, base, api.OK)
			}
			for _, n := range f.wrong {
				f.set(&base, n)
				checkNumbers(t, base, api.ErrRange)
			}
		}
	}
}

// TestCheckFirst: of two errors the one that is told first.
func TestCheckFirst(t *testing.T) {
	for _, f := range fields {
		for _, n := range f.wrong {
			for _, start := range []int{0, -1, 512, math.MinInt, math.MaxInt} {
				s := plain(start, 1)
				f.set(&s, n)
				checkNumbers(t, s, api.ErrRange)
				checkTold(t, s, -1, api.ErrRange)
				checkTold(t, s, 65, api.ErrRange)
				s.Name = "1"
				checkNumbers(t, s, api.ErrText)
				checkTold(t, s, -1, api.ErrText)
				checkTold(t, s, 65, api.ErrText)
			}
		}
	}
	for _, start := range []int{-1, 512, math.MinInt, math.MaxInt} {
		s := plain(start, 1)
		checkTold(t, s, -1, api.ErrRange)
		checkTold(t, s, 65, api.ErrRange)
		s.Name = ""
		checkNumbers(t, s, api.ErrText)
	}
	s := plain(0, 1)
	s.Name = "a-"
	checkTold(t, s, -1, api.ErrText)
	checkTold(t, s, 65, api.ErrText)
	checkTold(t, s, 0, api.ErrText)
}

func TestCheckStart(t *testing.T) {
	for _, size := range []int{1, 2, 8, 63, 64} {
		for _, s := range []api.Signal{plain(0, 1), back(0, 1)} {
			for start, want := range map[int]api.Errno{
				math.MinInt: api.ErrShort, math.MinInt + 7: api.ErrShort, -8: api.ErrShort, -7: api.ErrShort, -1: api.ErrShort,
				0: api.OK, 7: api.OK, 8*size - 8: api.OK, 8*size - 1: api.OK,
				8 * size: api.ErrShort, 8*size + 7: api.ErrShort, math.MaxInt - 7: api.ErrShort, math.MaxInt: api.ErrShort,
			} {
				s.Start = start
				checkTold(t, s, size, want)
			}
		}
	}
	for _, size := range []int{2, 12, 39, 40} {
		for _, start := range []int{math.MinInt, math.MinInt + 1, -40, -1, 512, math.MaxInt - 39, math.MaxInt - 1, math.MaxInt} {
			checkNumbers(t, plain(start, size), api.ErrShort)
			checkNumbers(t, back(start, size), api.ErrShort)
		}
	}
}

// TestCheckEnd: the last bit is the last one of the bytes, or lies behind it.
func TestCheckEnd(t *testing.T) {
	for _, bytes := range []int{5, 6, 8, 64} {
		for size := 1; size <= 40; size++ {
			checkTold(t, plain(8*bytes-size, size), bytes, api.OK)
			checkTold(t, plain(8*bytes-size+1, size), bytes, api.ErrShort)
			checkTold(t, plain(8*bytes-size, size), bytes-1, api.ErrShort)
		}
		last := 8*bytes - 8
		for _, c := range []struct{ start, fits int }{
			{last, 1}, {last + 1, 2}, {last + 6, 7}, {last + 7, 8},
			{last - 8, 9}, {last - 7, 10}, {last - 1, 16}, {last - 9, 24}, {last - 32, 33}, {last - 25, 40},
		} {
			checkTold(t, back(c.start, c.fits), bytes, api.OK)
			if c.fits < 40 {
				checkTold(t, back(c.start, c.fits+1), bytes, api.ErrShort)
			}
			checkTold(t, back(c.start, c.fits), bytes-1, api.ErrShort)
		}
	}
}

func TestPlaces(t *testing.T) {
	for _, c := range []struct {
		s    api.Signal
		want []int
	}{
		{plain(0, 1), []int{0}},
		{back(0, 1), []int{0}},
		{plain(7, 1), []int{7}},
		{back(7, 1), []int{7}},
		{plain(0, 8), []int{0, 1, 2, 3, 4, 5, 6, 7}},
		{back(7, 8), []int{0, 1, 2, 3, 4, 5, 6, 7}},
		{plain(2, 3), []int{2, 3, 4}},
		{back(4, 3), []int{2, 3, 4}},
		{plain(7, 2), []int{7, 8}},
		{back(0, 2), []int{15, 0}},
		{plain(6, 4), []int{6, 7, 8, 9}},
		{back(1, 4), []int{14, 15, 0, 1}},
		{plain(4, 12), []int{4, 5, 6, 7, 8, 9, 10, 11, 12, 13, 14, 15}},
		{back(7, 12), []int{12, 13, 14, 15, 0, 1, 2, 3, 4, 5, 6, 7}},
		{back(3, 12), []int{8, 9, 10, 11, 12, 13, 14, 15, 0, 1, 2, 3}},
		{back(8, 10), []int{31, 16, 17, 18, 19, 20, 21, 22, 23, 8}},
		{back(496, 2), []int{511, 496}},
		{back(504, 1), []int{504}},
		{plain(511, 1), []int{511}},
	} {
		if got, e := Places(c.s, 64); !slices.Equal(got, c.want) || e != api.OK {
			t.Errorf("Places(%+v): %v %d, want %v", c.s, got, e, c.want)
		}
	}
}

// walk has the numbers of s's bits by going from bit to bit, that which counts
// least first, whether they lie in the bytes or not.
func walk(s api.Signal) []int {
	var out []int
	at := s.Start
	for len(out) < s.Size {
		out = append(out, at)
		switch {
		case !s.Back:
			at++
		case at%8 > 0:
			at--
		default:
			at += 15
		}
	}
	if s.Back {
		slices.Reverse(out)
	}
	return out
}

// TestPlacesAll holds every signal in up to seven bytes, and some at the end of
// 64, against a walk.
func TestPlacesAll(t *testing.T) {
	for _, base := range []int{0, 512 - 64} {
		for start := base; start < base+64; start++ {
			for size := 1; size <= 40; size++ {
				for _, s := range []api.Signal{plain(start, size), back(start, size)} {
					checkPlaces(t, s, 0, 1, 2, 5, 6, 7, 63, 64)
				}
			}
		}
	}
}

func checkPlaces(t *testing.T, s api.Signal, sizes ...int) {
	t.Helper()
	want := walk(s)
	for _, bytes := range sizes {
		got, e := Places(s, bytes)
		if slices.Max(want) >= 8*bytes {
			if got != nil || e != api.ErrShort || Check(s, bytes) != api.ErrShort {
				t.Errorf("Places(%+v, %d): %v %d, want none, %d", s, bytes, got, e, api.ErrShort)
			}
		} else if !slices.Equal(got, want) || e != api.OK || Check(s, bytes) != api.OK {
			t.Errorf("Places(%+v, %d): %v %d, want %v", s, bytes, got, e, want)
		}
	}
}

func TestOver(t *testing.T) {
	other := plain(8, 4)
	other.Name, other.Key = "t", 3
	for _, c := range []struct {
		a, b api.Signal
		want bool
	}{
		{plain(0, 1), plain(0, 1), true},
		{plain(0, 1), back(0, 1), true},
		{plain(0, 1), plain(1, 1), false},
		{back(0, 1), back(1, 1), false},
		{plain(0, 8), plain(8, 8), false},
		{plain(0, 9), plain(8, 8), true},
		{plain(0, 8), plain(7, 1), true},
		{plain(0, 40), plain(39, 40), true},
		{plain(0, 40), plain(40, 40), false},
		{plain(472, 40), plain(511, 1), true},
		{plain(472, 39), plain(511, 1), false},
		{back(7, 40), back(32, 1), true},
		{back(7, 39), back(32, 1), false},
		{back(7, 40), back(39, 1), true},
		{back(7, 12), back(11, 4), false},
		{back(7, 12), back(12, 5), true},
		{back(7, 12), plain(8, 4), false},
		{back(7, 12), plain(8, 5), true},
		{back(0, 2), plain(1, 14), false},
		{back(0, 2), plain(1, 15), true},
		{back(0, 2), plain(0, 1), true},
		{plain(7, 2), back(7, 16), true},
		{plain(7, 2), back(6, 7), false},
		{plain(7, 2), back(6, 14), false},
		{plain(7, 2), back(6, 15), true},
		{plain(0, 1), plain(511, 1), false},
		{back(7, 12), other, false},
		{plain(11, 1), other, true},
		{other, other, true},
	} {
		if Over(c.a, c.b) != c.want || Over(c.b, c.a) != c.want {
			t.Errorf("Over of %+v and %+v: %v %v", c.a, c.b, Over(c.a, c.b), Over(c.b, c.a))
		}
	}
}

// TestOverWrong: one that Check doesn't take in 64 bytes is over none; one that
// has no room in fewer bytes may be.
func TestOverWrong(t *testing.T) {
	good := plain(480, 32)
	for _, wrong := range []api.Signal{
		{}, plain(480, 33), plain(512, 1), plain(-1, 2), back(504, 2), back(-1, 1), plain(480, 0), plain(480, 41),
		scaled(plain(480, 8), 0, 1, 0), scaled(plain(480, 8), 1, 0, 0), scaled(plain(480, 8), 1, 1, 1000001),
		plain(math.MaxInt, 40), plain(math.MinInt, 40), back(math.MaxInt, 40), back(math.MinInt, 40),
	} {
		if Over(good, wrong) || Over(wrong, good) || Over(wrong, wrong) {
			t.Errorf("Over: %+v, though Check doesn't take it", wrong)
		}
	}
}

// TestOverMany holds Over against two walks.
func TestOverMany(t *testing.T) {
	r := rand.New(rand.NewSource(1))
	both := map[bool]int{}
	for range 20000 {
		a, b := random(r, 8), random(r, 8)
		l := walk(b)
		want := slices.ContainsFunc(walk(a), func(at int) bool { return slices.Contains(l, at) })
		both[want]++
		if Over(a, b) != want || Over(b, a) != want || !Over(a, a) {
			t.Fatalf("Over of %+v and %+v: %v", a, b, !want)
		}
	}
	if min(both[true], both[false]) < 1000 {
		t.Errorf("one answer is too seldom: %v", both)
	}
}

// random is a signal that Check takes in so many bytes.
func random(r *rand.Rand, bytes int) api.Signal {
	for {
		s := api.Signal{
			Name:   "s" + digits[:r.Intn(11)],
			Start:  r.Intn(8 * bytes),
			Size:   1 + r.Intn(40),
			Back:   r.Intn(2) == 0,
			Signed: r.Intn(2) == 0,
			Mul:    factor(r),
			Div:    factor(r),
			Add:    r.Intn(2000001) - 1000000,
			Key:    r.Intn(257) - 1,
		}
		if r.Intn(2) == 0 {
			s.Mul = -s.Mul
		}
		if r.Intn(2) == 0 {
			s.Add %= 50
		}
		if slices.Max(walk(s)) < 8*bytes {
			return s
		}
	}
}

// factor is from 1 to 1000000, often small or at the end.
func factor(r *rand.Rand) int {
	switch r.Intn(4) {
	case 0:
		return 1
	case 1:
		return 1 + r.Intn(20)
	case 2:
		return 1000000 - r.Intn(3)
	}
	return 1 + r.Intn(1000000)
}
