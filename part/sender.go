package part

import (
	"bytes"

	"omnibus/api"
)

// Begin is a sender of data, and the part that it sends first.
func Begin(data []byte) (api.Sender, []byte, api.Errno) {
	if e := checkSize(data); e != api.OK {
		return api.Sender{}, nil, e
	}
	s := api.Sender{Data: bytes.Clone(data), At: inFirst(data), Next: firstOne, Left: untold}
	if s.At == len(data) {
		s.Done, s.Left = true, 0
	}
	return s, firstPart(data), api.OK
}

// CheckSender tells whether s may be.
func CheckSender(s api.Sender) api.Errno {
	size := len(s.Data)
	switch {
	case size > api.MaxMessage:
		return api.ErrMany
	case size == 0 || !within(s.At, 0, size) || !within(s.Left, untold, maxBlock) || !within(s.Next, 0, numbers-1):
		return api.ErrRange
	case !senderFits(s):
		return api.ErrForm
	}
	return api.OK
}

// senderFits: do the fields of s, each within its bounds, fit together?
func senderFits(s api.Sender) bool {
	all := s.At == len(s.Data)
	if s.Done != all || all && s.Left != 0 {
		return false
	}
	if len(s.Data) <= oneMost {
		return s.Done && s.Next == firstOne
	}
	return (all || betweenParts(s.At)) && s.Next == numberAt(s.At)
}

// Told is s behind an answer.
func Told(s api.Sender, part []byte) (api.Sender, api.Errno) {
	if e := CheckSender(s); e != api.OK {
		return api.Sender{}, e
	}
	if len(part) != answerBytes || !within(int(part[0]), goOn, giveUp) {
		return api.Sender{}, api.ErrForm
	}
	if s.Done || s.Left != untold {
		return api.Sender{}, api.ErrLate
	}
	switch part[0] {
	case goOn:
		s.Left = int(part[1])
	case wait: // so it stays untold
	case giveUp:
		return api.Sender{}, api.ErrFull
	}
	s.Data = bytes.Clone(s.Data)
	return s, api.OK
}

// Next is s behind its next part, and that part.
func Next(s api.Sender) (api.Sender, []byte, api.Errno) {
	if e := CheckSender(s); e != api.OK {
		return api.Sender{}, nil, e
	}
	if s.Done || s.Left == untold {
		return api.Sender{}, nil, api.ErrLate
	}
	p := nextPart(s.Data, s.At)
	s.Data = bytes.Clone(s.Data)
	s.At = min(s.At+nextMost, len(s.Data))
	s.Next = (s.Next + 1) % numbers
	s.Left = leftBehind(s.Left)
	if s.At == len(s.Data) {
		s.Done, s.Left = true, 0
	}
	return s, p, api.OK
}

// leftBehind is how many may go when one of left went. 0 says that all may, so
// that it stays, and isn't what the last one leaves.
func leftBehind(left int) int {
	switch left {
	case 0:
		return 0
	case 1:
		return untold
	}
	return left - 1
}
