package text

import (
	"math/big"
	"math/rand"
	"reflect"
	"regexp"
	"slices"
	"strconv"
	"strings"
	"testing"

	"omnibus/api"
	"omnibus/message"
)

// Lines that are right.
const (
	aMessage = "message m 5 8 -"
	aSignal  = "signal s 0:4<+ 1/1 0 -"
)

// checkParse holds Parse's error and place against what is wanted; with an error
// there are no messages.
func checkParse(t *testing.T, s string, at int, want api.Errno) {
	t.Helper()
	l, gotAt, e := Parse(s)
	if gotAt != at || e != want || (e != api.OK && l != nil) {
		t.Errorf("Parse(%q): %+v at %d: %d, want at %d: %d", s, l, gotAt, e, at, want)
	}
}

// checkWrong: a line isn't written so, wherever it stands and whatever is wrong
// behind it, or with the messages ahead of it.
func checkWrong(t *testing.T, line string) {
	t.Helper()
	checkParse(t, line+"\n", 0, api.ErrText)
	for _, ahead := range []string{
		"message a 1 8 -\n",
		"message a 1 8 -\nsignal b 0:4<+ 1/1 0 -\n",
		"message a 1 8 b\nsignal b 0:4<+ 1/1 0 -\nsignal c 4:4<+ 1/1 0 1\nmessage b 2x 0 -\n",
		"message a 1 8 nobody\n",
		"message 9 1 99 nobody\nmessage 9 1 99 nobody\n",
	} {
		at := strings.Count(ahead, "\n")
		for _, behind := range []string{"", "\n", "\n" + aMessage + "\n", "\n\n", "\nwrong", "\n" + line + "\n", "\nmessage b 3 8 nobody\n"} {
			if line+behind == "" { // nothing is no line
				continue
			}
			checkParse(t, ahead+line+behind, at, api.ErrText)
		}
	}
}

// checkRight: lines are written so, behind a message, though the messages may not
// be: then at is 0, and the error what is wanted.
func checkRight(t *testing.T, lines string, want api.Errno) {
	t.Helper()
	s := "message ahead 1000 8 -\n" + lines
	at := strings.Count(s, "\n")
	checkParse(t, s+"\n", 0, want)
	checkParse(t, s, at, api.ErrText)
	checkParse(t, s+"\nwrong\n", at+1, api.ErrText)
}

func TestParseNothing(t *testing.T) {
	l, at, e := Parse("")
	if len(l) != 0 || at != 0 || e != api.OK {
		t.Errorf("Parse of nothing: %+v %d %d", l, at, e)
	}
}

func TestParseLong(t *testing.T) {
	for _, n := range []int{api.MaxText - 1, api.MaxText} {
		l := sized(t, n)
		checkBoth(t, l, told(l))
		checkParse(t, strings.Repeat("z", n), 0, api.ErrText)
		checkParse(t, strings.Repeat("\n", n), 0, api.ErrText)
		checkParse(t, aMessage+"\n"+strings.Repeat("z", n-len(aMessage)-1), 1, api.ErrText)
	}
	for _, n := range []int{api.MaxText + 1, api.MaxText + 2, 10 * api.MaxText} {
		checkParse(t, strings.Repeat("z", n), 0, api.ErrMany)
		checkParse(t, strings.Repeat("\n", n), 0, api.ErrMany)
		checkParse(t, strings.Repeat(" ", n), 0, api.ErrMany)
		checkParse(t, aMessage+"\n"+strings.Repeat("z", n-len(aMessage)-1), 0, api.ErrMany)
	}
	for _, n := range []int{api.MaxText + 1, api.MaxText + 2} {
		checkParse(t, told(sized(t, n)), 0, api.ErrMany)
	}
	// bytes are counted, not runes
	name := strings.Repeat("é", (api.MaxText-len("message  5 8 -\n"))/2)
	s := "message " + name + " 5 8 -\n"
	checkParse(t, s, 0, api.ErrText)
	checkParse(t, s+s, 0, api.ErrMany)
	// and the last line's number, if all before are right
	s = strings.Repeat("message a 1 0 -\n", 249)
	checkParse(t, s+"message a 1 0 -\n", 0, api.ErrMany)
	checkParse(t, s+"message a 1 0 - ", 249, api.ErrText)
}

func TestParseEnd(t *testing.T) {
	checkParse(t, aMessage, 0, api.ErrText)
	checkParse(t, aMessage+"\n"+aSignal, 1, api.ErrText)
	checkParse(t, aMessage+"\n"+aSignal+"\n", 0, api.OK)
	checkParse(t, aMessage+"\r\n", 0, api.ErrWho) // the Chooser's name
	for _, s := range []string{" ", "x", "\x00", "\r", "message", "signal"} {
		checkParse(t, s, 0, api.ErrText)
		checkParse(t, aMessage+"\n"+aSignal+"\n"+s, 2, api.ErrText)
	}
}

func TestParseEmptyLine(t *testing.T) {
	checkWrong(t, "")
	checkParse(t, "\n", 0, api.ErrText)
	checkParse(t, "\n\n", 0, api.ErrText)
	checkParse(t, "\n"+aMessage+"\n", 0, api.ErrText)
	checkParse(t, aMessage+"\n\n"+aSignal+"\n", 1, api.ErrText)
	checkParse(t, aMessage+"\n"+aSignal+"\n\n", 2, api.ErrText)
	checkParse(t, aMessage+"\n"+aSignal+"\n\n\n", 2, api.ErrText)
}

// TestParseWords: words too few and too many, and other things than one blank
// between them.
func TestParseWords(t *testing.T) {
	checkParse(t, aMessage+"\n", 0, api.OK)
	checkRight(t, aMessage, api.OK)
	checkRight(t, aSignal, api.OK)
	for _, line := range []string{aMessage, aSignal} {
		words := strings.Split(line, " ")
		for i := range words {
			checkWrong(t, strings.Join(words[:i], " "))
			checkWrong(t, strings.Join(slices.Delete(slices.Clone(words), i, i+1), " "))
			for _, word := range []string{"", "a", "-", "0", "5", "1/1", aSignal, aMessage} {
				checkWrong(t, strings.Join(slices.Insert(slices.Clone(words), i, word), " "))
			}
			if i > 0 {
				for _, between := range []string{"  ", "   ", "\t", " \t ", "\r", "\v", "\f", "\x00", "\u00a0", "\u2003", "_", ",", ""} {
					checkWrong(t, strings.Join(words[:i], " ")+between+strings.Join(words[i:], " "))
				}
			}
		}
		for _, word := range []string{"", "a", "-", "0"} {
			checkWrong(t, line+" "+word)
		}
		for _, edge := range []string{" ", "  ", "\t", "\r", "\x00", "\u00a0", "\ufeff", "#", "\""} {
			checkWrong(t, edge+line)
		}
		checkWrong(t, line+"  ")
	}
	for _, edge := range []string{"\t", "\r", "\x00", "\u00a0", ";"} {
		checkWrong(t, aSignal+edge)
		checkRight(t, aMessage+edge, api.ErrWho) // the Chooser's name
	}
}

func TestParseFirstWord(t *testing.T) {
	for _, line := range []string{aMessage, aSignal} {
		_, rest, _ := strings.Cut(line, " ")
		for _, word := range []string{"", "m", "Message", "MESSAGE", "messages", "messag", "essage", "Signal", "SIGNAL", "signals", "signa", "ignal", "-", "0", "me\u017fsage", "message:", "\"message\""} {
			checkWrong(t, word+" "+rest)
		}
	}
	checkWrong(t, strings.Replace(aMessage, "message", "signal", 1))
	checkWrong(t, strings.Replace(aSignal, "signal", "message", 1))
}

func TestParseSignalAhead(t *testing.T) {
	checkParse(t, aSignal+"\n", 0, api.ErrText)
	checkParse(t, aSignal+"\n"+aMessage+"\n", 0, api.ErrText)
	checkParse(t, aSignal+"\n"+aSignal+"\n", 0, api.ErrText)
	checkParse(t, aSignal+"\nwrong\n", 0, api.ErrText)
	checkParse(t, "wrong\n"+aSignal+"\n", 0, api.ErrText)
}

// places are where numbers stand in a line: what is ahead of them and behind. low
// is whether one below 0 is written so there.
var places = []struct {
	ahead, behind string
	low           bool
	field         func(m api.Message) int
}{
	{"message m ", " 8 -", true, func(m api.Message) int { return m.ID }},
	{"message m ", "x 8 -", true, func(m api.Message) int { return m.ID }},
	{"message m 5 ", " -", true, func(m api.Message) int { return m.Size }},
	{"signal s ", ":4<+ 1/1 0 -", true, func(m api.Message) int { return m.Signals[0].Start }},
	{"signal s 0:", "<+ 1/1 0 -", true, func(m api.Message) int { return m.Signals[0].Size }},
	{"signal s 0:", ">- 1/1 0 -", true, func(m api.Message) int { return m.Signals[0].Size }},
	{"signal s 0:4<+ ", "/1 0 -", true, func(m api.Message) int { return m.Signals[0].Mul }},
	{"signal s 0:4<+ 1/", " 0 -", true, func(m api.Message) int { return m.Signals[0].Div }},
	{"signal s 0:4<+ 1/1 ", " -", true, func(m api.Message) int { return m.Signals[0].Add }},
	{"signal s 0:4<+ 1/1 0 ", "", false, func(m api.Message) int { return m.Signals[0].Key }},
}

// TestParseNumbers: what strconv.Itoa would not write so, wherever a number
// stands; and what it would, whether it may be there or not.
func TestParseNumbers(t *testing.T) {
	for i, p := range places {
		for _, word := range []string{
			"+1", "+0", "++1", "+", "-", "--", "--1", "-+1", "01", "00", "007", "-01", "-00", "-0", "",
			"9223372036854775808", "-9223372036854775809", "18446744073709551616", "99999999999999999999", "-99999999999999999999",
			strings.Repeat("9", 300), strings.Repeat("0", 300) + "1", "1" + strings.Repeat("0", 300),
			"a", "1a", "a1", "1-", "1+", "1.0", "1.", ".1", "1e3", "0x1", "0X1", "0b1", "0o1", "1_0", "_1", "1_", "1,0", "'1'", "1\x00", "\x001", "1\t", "\t1", "1\r", "\r1", "1\v",
			"\u0661", "\uff11", "1\u0661", "\u06611", "\xb1", "1\xb1", "\xb11", "\x81", "\u00b2", "\u00bd", "\u2212\u0031", "\u2081", "\U0001d7cf", "1\u0301", "1\u200b",
			"1:", ":1", "1<", "<1", "1>", ">1", "1/", "/1", "1:1", "1/1", "x", "xx", "1xx", "1X", "x1", "1x1", "inf", "nan", "nil",
		} {
			if i == len(places)-1 && word == "-" { // no Key
				continue
			}
			checkWrong(t, p.ahead+word+p.behind)
		}
		if i > 0 {
			checkWrong(t, p.ahead+"1x"+p.behind) // it stands behind an ID alone
		}
		for _, n := range []int{0, 1, 4, 9, 10, 99, 100, 255, 256, 1000001, 1 << 40, 9223372036854775807, -1, -9, -10, -1000001, -9223372036854775808} {
			line := p.ahead + strconv.Itoa(n) + p.behind
			if n < 0 && !p.low {
				checkWrong(t, line)
				continue
			}
			s := line + "\n"
			if strings.HasPrefix(line, "signal") {
				s = aMessage + "\n" + s
			}
			l, at, ok := read(s)
			if !ok || at != 0 || len(l) != 1 || p.field(l[0].Message) != n {
				t.Errorf("read(%q): %+v %d %v, want %d there", s, l, at, ok, n)
			}
			_, at, e := Parse(s)
			if want := message.CheckAll([]api.Message{withNoChooser(l[0].Message)}); at != 0 || e != want {
				t.Errorf("Parse(%q): at %d: %d, want at 0: %d", s, at, e, want)
			}
		}
	}
}

func withNoChooser(m api.Message) api.Message {
	m.Chooser = -1
	return m
}

// TestParseMarks: each sign within a word left out, doubled, or exchanged.
func TestParseMarks(t *testing.T) {
	for _, line := range []string{
		"message m 5x 8 -",
		"signal s 0:4<+ 1/1 0 -", "signal s 7:4>+ 1/1 0 -", "signal s 0:4<- 1/1 0 -", "signal s 7:4>- 1/1 0 -",
		"signal s 7:4>- -1/1 -5 -",
	} {
		checkRight(t, line, api.OK)
	}
	const ahead, behind = "signal s ", " 1/1 0 -"
	for _, place := range []string{
		"", ":", "<", ">", "+", "-", "0", "0:4", "04<+", "0:4+", "0:4-", "0:4<", "0:4>", ":4<+", "0:<+", ":<+", "<+",
		"0::4<+", "0:4<<+", "0:4>>+", "0:4<>+", "0:4><+", "0:4<++", "0:4<--", "0:4<-+", "0:4<+-", "0:4>--", "0:4>+-", "0:4<+<+", "0:4<+>-",
		"0;4<+", "0/4<+", "0-4<+", "0|4<+", "0.4<+", "0<4<+", "0:4:4<+", "0:4:+", "0:4=+", "0:4(+", "0:4[+", "0:4/+", "0:4+<", "0:4->", "0:4++", "0:4--", "0:4<*", "0:4</", "0:4<:", "0:4<<", "0:4<>", "0:4<x", "0:4<0", "0:4<\uff0b", "0:4<\u2212", "0:4\uff1c+", "0\uff1a4<+",
		"x0:4<+", "0x:4<+", "0:4x<+", "0:4<x+", "0:4<+x", "<0:4+", "+0:4<", "<+0:4", "0<:4+", "4<+", "0:4 <+", "0: 4<+", "0 :4<+", "0:4< +",
	} {
		checkWrong(t, ahead+place+behind)
	}
	for _, factor := range []string{"", "/", "1", "11", "1/", "/1", "1//1", "1/1/1", "1/1/", "/1/1", "1\\1", "1:1", "1|1", "1-1", "1x1", "1 / 1", "1/ 1", "1 /1", "1\u20441", "1/+1", "+1/1", "1/1x", "1/1+", "1/1<"} {
		checkWrong(t, "signal s 0:4<+ "+factor+" 0 -")
	}
	for _, id := range []string{"x", "xx", "5xx", "x5", "5X", "5y", "5xy", "5 x", "x5x", "5x5", "5+", "5-", "5:", "5\u00d7", "-x", "-0x", "05x", "+5x", "0x5", "0x5x"} {
		checkWrong(t, "message m "+id+" 8 -")
	}
	for _, size := range []string{"8x", "x", "8:", "8+"} {
		checkWrong(t, "message m 5 "+size+" -")
	}
}

func TestParseKey(t *testing.T) {
	for _, key := range []string{"-1", "-2", "-255", "-256", "-9223372036854775808", "--", "-0", "+0", "+", "-x", "-1x", "none", "x", "*"} {
		checkWrong(t, "signal s 0:4<+ 1/1 0 "+key)
	}
	const ahead = "message m 5 8 c\nsignal c 0:8<+ 1/1 0 -\nsignal s 8:4<+ 1/1 0 "
	for key, want := range map[string]int{"-": -1, "0": 0, "1": 1, "10": 10, "255": 255} {
		l, at, e := Parse(ahead + key + "\n")
		if at != 0 || e != api.OK || len(l) != 1 || l[0].Signals[1].Key != want {
			t.Errorf("the Key %q: %+v %d %d, want %d", key, l, at, e, want)
		}
	}
	checkParse(t, ahead+"256\n", 0, api.ErrRange)
	checkParse(t, ahead+"9223372036854775807\n", 0, api.ErrRange)
	checkParse(t, ahead+"9223372036854775808\n", 2, api.ErrText)
}

// TestParseNames: any word may stand for a name; it is told later that it is none,
// and without a place.
func TestParseNames(t *testing.T) {
	for _, name := range []string{
		"-", "9", "1a", "_", "a_b", "a-b", "+", "/", ":", "x:", "é", "\u0661", "\xff", "a\xff", "\x00", "a\x00", "\t", "a\tb", "a\r", "\u00a0", "\u2028", "\u0085",
		"0:4<+", "1/1", strings.Repeat("a", api.MaxName+1), strings.Repeat("a", 1000),
	} {
		checkRight(t, "message "+name+" 5 8 -", api.ErrText)
		checkRight(t, "signal "+name+" 0:4<+ 1/1 0 -", api.ErrText)
		if name != "-" {
			checkRight(t, "message m 5 8 "+name, api.ErrWho)
			checkRight(t, "message m 5 8 "+name+"\nsignal "+name+" 0:4<+ 1/1 0 -", api.ErrText)
		}
	}
	for _, name := range []string{"message", "signal", "x", "X", "m", strings.Repeat("Z", api.MaxName)} {
		checkRight(t, "message "+name+" 5 8 "+name+"\nsignal "+name+" 0:4<+ 1/1 0 -", api.OK)
	}
}

// TestParseTwoPlaces: the first wrong line is told, once, however much of it is
// wrong, and whatever is wrong behind it.
func TestParseTwoPlaces(t *testing.T) {
	wrong := []string{"", " ", "wrong", "message", "message m 05 +8 -", "message  5 8", "signal s 0;4<+ 1:1 +0 -1", "signal s 0:4<+ 1/1 0 -1", "signal s 0:4<+ 1/1 00 --", "signal  0:4<+ 1/1 0 - "}
	for _, first := range wrong {
		checkWrong(t, first)
		for _, second := range wrong {
			checkParse(t, first+"\n"+second+"\n", 0, api.ErrText)
			checkParse(t, aMessage+"\n"+first+"\n"+second+"\n", 1, api.ErrText)
			checkParse(t, aMessage+"\n"+first+"\n"+aSignal+"\n"+second, 1, api.ErrText)
			checkParse(t, aMessage+"\n"+aSignal+"\n"+aMessage+"\n"+first+"\n"+aSignal+"\n"+second, 3, api.ErrText)
		}
	}
}

func TestParseChooser(t *testing.T) {
	const b, c = "signal b 0:4<+ 1/1 0 -\n", "signal c 4:4<+ 1/1 0 -\n"
	for s, want := range map[string][]int{
		"message m 1 8 -\n":                                   {-1},
		"message m 1 8 -\n" + b + c:                           {-1},
		"message m 1 8 b\n" + b + c:                           {0},
		"message m 1 8 c\n" + b + c:                           {1},
		"message m 1 8 c\n" + b + c + "message n 2 8 b\n" + b: {1, 0},
		"message m 1 8 -\n" + b + c + "message n 2 8 b\n" + b: {-1, 0},
	} {
		l, at, e := Parse(s)
		var got []int
		for _, m := range l {
			got = append(got, m.Chooser)
		}
		if !slices.Equal(got, want) || at != 0 || e != api.OK {
			t.Errorf("Parse(%q): the Choosers %v %d %d, want %v", s, got, at, e, want)
		}
	}
	for _, s := range []string{
		"message m 1 8 z\n",
		"message m 1 8 z\n" + b + c,
		"message m 1 8 m\n" + b,
		"message m 1 8 B\n" + b,
		"message m 1 8 bb\n" + b,
		"message m 1 8 --\n" + b,
		"message m 1 8 0\n" + b,
		"message m 1 8 -1\n" + b,
		// the signals of others don't count
		"message m 1 8 b\nmessage n 2 8 -\n" + b,
		"message m 1 8 -\n" + b + "message n 2 8 b\n" + c,
		"message m 1 8 b\n" + b + "message n 2 8 z\n" + b,
	} {
		checkParse(t, s, 0, api.ErrWho)
	}
	// of several the first: what it is shows in what is told of the list
	checkParse(t, "message m 1 8 b\n"+b+b, 0, api.ErrTwice)
	first, _, ok := read("message m 1 8 b\n" + c + b + b)
	if m, named := chosen(first[0]); !ok || !named || m.Chooser != 1 {
		t.Errorf("of several: %+v, want the first", m)
	}
	// a signal that has the sign for its name doesn't choose
	sign, _, ok := read("message m 1 8 -\nsignal - 0:4<+ 1/1 0 -\n")
	if m, named := chosen(sign[0]); !ok || !named || m.Chooser != -1 {
		t.Errorf("a signal named by the sign: %+v, want no Chooser", m)
	}
	checkParse(t, "message m 1 8 -\nsignal - 0:4<+ 1/1 0 -\n", 0, api.ErrText)
	checkParse(t, "message m 1 8 z\nsignal - 0:4<+ 1/1 0 -\n", 0, api.ErrWho)
}

// TestParseWrongLists: each of CheckAll's errors, without a place; ErrWho of any
// message is told ahead of it, and what isn't written so ahead of both.
func TestParseWrongLists(t *testing.T) {
	const nobody = "message nobody 1001 8 nobody\n"
	for _, c := range wrongLists() {
		s := told(c.l)
		checkParse(t, s, 0, c.want)
		checkParse(t, "message ahead 1000 8 -\n"+s, 0, c.want)
		checkParse(t, nobody+s, 0, api.ErrWho)
		checkParse(t, s+nobody, 0, api.ErrWho)
		checkParse(t, "message ahead 1000 8 -\n"+s+nobody, 0, api.ErrWho)
		n := strings.Count(s, "\n")
		checkParse(t, s+"wrong\n", n, api.ErrText)
		checkParse(t, s+"message", n, api.ErrText)
		checkParse(t, nobody+s+"\n", n+1, api.ErrText)
		checkParse(t, "wrong\n"+s, 0, api.ErrText)
	}
	// as many messages and signals as there may be, and one more
	for n, want := range map[int]api.Errno{api.MaxMessages: api.OK, api.MaxMessages + 1: api.ErrMany} {
		checkParse(t, told(many(n, 1)), 0, want)
	}
	for n, want := range map[int]api.Errno{api.MaxSignals: api.OK, api.MaxSignals + 1: api.ErrMany} {
		checkParse(t, told(many(2, n)), 0, want)
	}
}

// TestParseMemory: what is answered is new, each list of it by itself.
func TestParseMemory(t *testing.T) {
	l := many(5, 3)
	s := told(l)
	one, _, _ := Parse(s)
	two, _, _ := Parse(s)
	for i := range one {
		room := one[i].Signals[:cap(one[i].Signals)]
		for k := range room {
			room[k] = api.Signal{Name: "spoilt"}
		}
		for k := range one {
			if k > i && !slices.Equal(one[k].Signals, l[k].Signals) {
				t.Errorf("the signals of the messages %d and %d share memory", i, k)
			}
		}
	}
	clear(one[:cap(one)])
	if !alike(two, l) {
		t.Errorf("two answers share memory: %+v", two)
	}
	if three, _, e := Parse(s); !alike(three, l) || e != api.OK {
		t.Errorf("something was kept: %+v", three)
	}
}

// numberForm is how strconv.Itoa writes a number, if there is room for it.
const numberForm = `(0|-?[1-9][0-9]*)`

// lineForms are how lines are written.
var (
	messageForm = regexp.MustCompile(`^message ([^ ]+) ` + numberForm + `(x?) ` + numberForm + ` ([^ ]+)$`)
	signalForm  = regexp.MustCompile(`^signal ([^ ]+) ` + numberForm + `:` + numberForm + `([<>])([+-]) ` + numberForm + `/` + numberForm + ` ` + numberForm + ` (-|0|[1-9][0-9]*)$`)
)

// numbersOf has the numbers of words, if an int has room for all of them.
func numbersOf(words ...string) ([]int, bool) {
	var out []int
	for _, word := range words {
		n, ok := new(big.Int).SetString(word, 10)
		if !ok || !n.IsInt64() {
			return nil, false
		}
		out = append(out, int(n.Int64()))
	}
	return out, true
}

// formMessage is the message of a line, and the word of its Chooser.
func formMessage(line string) (api.Message, string, bool) {
	w := messageForm.FindStringSubmatch(line)
	if w == nil {
		return api.Message{}, "", false
	}
	n, ok := numbersOf(w[2], w[4])
	if !ok {
		return api.Message{}, "", false
	}
	return api.Message{Name: w[1], ID: n[0], Long: w[3] != "", Size: n[1]}, w[5], true
}

// formSignal is the signal of a line.
func formSignal(line string) (api.Signal, bool) {
	w := signalForm.FindStringSubmatch(line)
	if w == nil {
		return api.Signal{}, false
	}
	key := w[9]
	if key == "-" {
		key = "-1"
	}
	n, ok := numbersOf(w[2], w[3], w[6], w[7], w[8], key)
	if !ok {
		return api.Signal{}, false
	}
	return api.Signal{Name: w[1], Start: n[0], Size: n[1], Back: w[4] == ">", Signed: w[5] == "-", Mul: n[2], Div: n[3], Add: n[4], Key: n[5]}, true
}

// formParse is what Parse must answer, by forms of lines.
func formParse(s string) ([]api.Message, int, api.Errno) {
	if len(s) > api.MaxText {
		return nil, 0, api.ErrMany
	}
	lines := strings.Split(s, "\n")
	var l []api.Message
	var choosers []string
	for i, line := range lines[:len(lines)-1] {
		if m, chooser, ok := formMessage(line); ok {
			l, choosers = append(l, m), append(choosers, chooser)
		} else if one, ok := formSignal(line); ok && len(l) > 0 {
			l[len(l)-1].Signals = append(l[len(l)-1].Signals, one)
		} else {
			return nil, i, api.ErrText
		}
	}
	if lines[len(lines)-1] != "" {
		return nil, len(lines) - 1, api.ErrText
	}
	for i := range l {
		l[i].Chooser = -1
		for k := len(l[i].Signals) - 1; k >= 0 && choosers[i] != "-"; k-- {
			if l[i].Signals[k].Name == choosers[i] {
				l[i].Chooser = k
			}
		}
		if choosers[i] != "-" && l[i].Chooser == -1 {
			return nil, 0, api.ErrWho
		}
	}
	if e := message.CheckAll(l); e != api.OK {
		return nil, 0, e
	}
	return l, 0, api.OK
}

// pieces are what texts are spoilt with.
var pieces = []string{
	" ", "\n", "\t", "\r", ":", "<", ">", "+", "-", "/", "x", "0", "1", "9", "2", "a", "\x00", "\xff", "é", "\u0661",
	"message", "signal", " -", "- ", "-1", "\n\n", "9223372036854775807", "9223372036854775808", "-9223372036854775808",
	"\n" + aMessage, aMessage + "\n", "\n" + aSignal, aSignal + "\n",
}

// spoilt is s with something put in, left out, exchanged, doubled or moved.
func spoilt(r *rand.Rand, s string) string {
	from := r.Intn(len(s) + 1)
	to := min(len(s), from+1+r.Intn(3))
	switch r.Intn(6) {
	case 0:
		return s[:from] + pieces[r.Intn(len(pieces))] + s[from:]
	case 1:
		return s[:from] + s[to:]
	case 2:
		return s[:from] + pieces[r.Intn(len(pieces))] + s[to:]
	case 3:
		return s[:to] + s[from:]
	case 4:
		lines := strings.SplitAfter(s, "\n")
		return s + lines[r.Intn(len(lines))]
	}
	words := strings.SplitAfter(s, " ")
	i, k := r.Intn(len(words)), r.Intn(len(words))
	words[i], words[k] = words[k], words[i]
	return strings.Join(words, "")
}

// TestParseMany: texts that were spoilt here and there, against the forms.
func TestParseMany(t *testing.T) {
	r := rand.New(rand.NewSource(12))
	seen, behind := map[api.Errno]int{}, 0
	for range 30000 {
		s := told(someMessages(r, 3))
		for range r.Intn(4) {
			s = spoilt(r, s)
		}
		l, at, e := Parse(s)
		wantList, wantAt, want := formParse(s)
		if !alike(l, wantList) || at != wantAt || e != want || (e != api.OK && l != nil) {
			t.Fatalf("Parse(%q): %+v at %d: %d, want %+v at %d: %d", s, l, at, e, wantList, wantAt, want)
		}
		seen[e]++
		if at > 0 {
			behind++
		}
		if e == api.OK {
			checkPrint(t, l, s, api.OK)
		}
	}
	for _, e := range []api.Errno{api.OK, api.ErrText, api.ErrWho, api.ErrRange, api.ErrTwice, api.ErrOver, api.ErrForm, api.ErrShort} {
		if seen[e] < 20 {
			t.Errorf("too few of the kind %d were tried: %v", e, seen)
		}
	}
	if behind < 1000 {
		t.Errorf("too few wrong lines behind the first were tried: %d", behind)
	}
}

// TestParseBytes: each byte in each place of a text, against the forms.
func TestParseBytes(t *testing.T) {
	const s = "message m 12x 8 c\nsignal c 56:8<+ 1/1 0 -\nsignal s 15:12>- -3/10 -40 25\n"
	for i := range len(s) + 1 {
		for b := range 256 {
			texts := []string{s[:i] + string([]byte{byte(b)}) + s[i:]}
			if i < len(s) {
				texts = append(texts, s[:i]+string([]byte{byte(b)})+s[i+1:])
			}
			for _, text := range texts {
				l, at, e := Parse(text)
				wantList, wantAt, want := formParse(text)
				if !alike(l, wantList) || at != wantAt || e != want {
					t.Errorf("Parse(%q): %+v at %d: %d, want %+v at %d: %d", text, l, at, e, wantList, wantAt, want)
				}
			}
		}
		at, e := cutError(s[:i])
		checkParse(t, s[:i], at, e)
	}
}

// cutError is where and what is wrong with s, with which a right text begins: its
// Chooser stands on the second line.
func cutError(s string) (int, api.Errno) {
	lines := strings.Count(s, "\n")
	switch {
	case s != "" && !strings.HasSuffix(s, "\n"):
		return lines, api.ErrText
	case lines == 1:
		return 0, api.ErrWho
	}
	return 0, api.OK
}

// TestForms: the forms themselves, against what is printed.
func TestForms(t *testing.T) {
	r := rand.New(rand.NewSource(13))
	for range 200 {
		l := someMessages(r, 3)
		if back, at, e := formParse(told(l)); !alike(back, l) || at != 0 || e != api.OK {
			t.Errorf("the forms read %+v as %+v %d %d", l, back, at, e)
		}
	}
	if _, ok := numbersOf("9223372036854775808"); ok {
		t.Errorf("an int has no room for 2^63")
	}
	if m, _, ok := formMessage("message a\tb -5x 07 -"); ok || !reflect.DeepEqual(m, api.Message{}) {
		t.Errorf("the forms take a 0 ahead: %+v", m)
	}
}
