package text

import (
	"slices"
	"strconv"
	"strings"

	"omnibus/api"
	"omnibus/message"
)

// Words of a line, the first one among them.
const (
	messageWords = 5
	signalWords  = 6
)

// wrongLine is what a reader panics with: the number of the line at which it
// gives up.
type wrongLine int

// draft is a message whose Chooser is still a word: the signals that it may name
// stand on later lines.
type draft struct {
	api.Message
	chooser string
}

// reader reads a text line by line. Its calls panic with a wrongLine at what
// isn't written as Print does.
type reader struct {
	at     int // the number of the line
	drafts []draft
}

// Parse has the messages of which s is the text; at is the number of the first
// line that is none of Print's.
func Parse(s string) (l []api.Message, at int, e api.Errno) {
	if len(s) > api.MaxText {
		return nil, 0, api.ErrMany
	}
	drafts, at, ok := read(s)
	if !ok {
		return nil, at, api.ErrText
	}
	for _, d := range drafts {
		m, ok := chosen(d)
		if !ok {
			return nil, 0, api.ErrWho
		}
		l = append(l, m)
	}
	if e := message.CheckAll(l); e != api.OK {
		return nil, 0, e
	}
	return l, 0, api.OK
}

// read has what stands in s, or else the number of the first wrong line.
func read(s string) (drafts []draft, at int, ok bool) {
	defer func() {
		caught := recover()
		if wrong, gaveUp := caught.(wrongLine); gaveUp {
			drafts, at, ok = nil, int(wrong), false
		} else if caught != nil {
			panic(caught)
		}
	}()
	var r reader
	for s != "" {
		line, rest, ended := strings.Cut(s, "\n")
		r.need(ended)
		r.readLine(line)
		r.at++
		s = rest
	}
	return r.drafts, 0, true
}

// chosen is d's message with its Chooser; false: none of its signals has the name.
func chosen(d draft) (api.Message, bool) {
	m := d.Message
	if d.chooser == noneWord {
		m.Chooser = -1
		return m, true
	}
	m.Chooser = slices.IndexFunc(m.Signals, func(s api.Signal) bool { return s.Name == d.chooser })
	return m, m.Chooser >= 0
}

// need gives up unless ok.
func (r *reader) need(ok bool) {
	if !ok {
		panic(wrongLine(r.at))
	}
}

func (r *reader) readLine(line string) {
	words := strings.Split(line, " ")
	r.need(!slices.Contains(words, "")) // a blank too many leaves a word without bytes
	switch words[0] {
	case messageWord:
		r.need(len(words) == messageWords)
		r.drafts = append(r.drafts, r.readMessage(words))
	case signalWord:
		r.need(len(words) == signalWords && len(r.drafts) > 0)
		last := &r.drafts[len(r.drafts)-1]
		last.Signals = append(last.Signals, r.readSignal(words))
	default:
		r.need(false)
	}
}

func (r *reader) readMessage(words []string) draft {
	id, long := strings.CutSuffix(words[2], longMark)
	m := api.Message{Name: words[1], ID: r.number(id), Long: long, Size: r.number(words[3])}
	return draft{Message: m, chooser: words[4]}
}

func (r *reader) readSignal(words []string) api.Signal {
	s := api.Signal{Name: words[1]}
	place, signed := r.mark(words[2], unsignedMark, signedMark)
	place, back := r.mark(place, forthMark, backMark)
	s.Signed, s.Back = signed, back
	s.Start, s.Size = r.pair(place, sizeMark)
	s.Mul, s.Div = r.pair(words[3], overMark)
	s.Add = r.number(words[4])
	s.Key = r.key(words[5])
	return s
}

// number is the number that strconv.Itoa writes as word.
func (r *reader) number(word string) int {
	n, err := strconv.Atoi(word)
	r.need(err == nil && strconv.Itoa(n) == word) // Atoi takes a +, a 0 ahead and -0, too
	return n
}

// pair has the two numbers of word, with a mark between. Without one, the second
// is "", which is no number.
func (r *reader) pair(word, between string) (int, int) {
	first, second, _ := strings.Cut(word, between)
	return r.number(first), r.number(second)
}

// mark is word without its last mark, which is one of two, and whether it is the
// second.
func (r *reader) mark(word, no, yes string) (string, bool) {
	if rest, is := strings.CutSuffix(word, yes); is {
		return rest, true
	}
	rest, is := strings.CutSuffix(word, no)
	r.need(is)
	return rest, false
}

func (r *reader) key(word string) int {
	if word == noneWord {
		return -1
	}
	n := r.number(word)
	r.need(n >= 0)
	return n
}
