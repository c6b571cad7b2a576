// Package bits: rows of bits as texts of 0 and 1; see doc/01-bits.md.
package bits

import (
	"strings"

	"omnibus/api"
)

const (
	// So that 1 << maxNumber, the first number that doesn't fit, is still an int.
	maxNumber = 62
	byteBits  = 8
)

// Check tells whether b is a row. The length is asked first: a text that is
// too long is not read at all.
func Check(b string) api.Errno {
	if len(b) > api.MaxBits {
		return api.ErrMany
	}
	for _, r := range b {
		if !isBit(r) {
			return api.ErrForm
		}
	}
	return api.OK
}

// Number reads b as a number, the bit that counts most first.
func Number(b string) (int, api.Errno) {
	if e := Check(b); e != api.OK {
		return 0, e
	}
	if len(b) > maxNumber {
		return 0, api.ErrMany
	}
	return value(b), api.OK
}

// Row writes n in just size bits.
func Row(n, size int) (string, api.Errno) {
	if size < 0 || size > maxNumber {
		return "", api.ErrMany
	}
	if n < 0 || n>>size != 0 {
		return "", api.ErrRange
	}
	return string(appendBits(nil, n, size)), api.OK
}

// Of writes each byte of l as its 8 bits.
func Of(l []byte) (string, api.Errno) {
	// Divided, since eight times a length might not be an int.
	if len(l) > api.MaxBits/byteBits {
		return "", api.ErrMany
	}
	var row []byte
	for _, x := range l {
		row = appendBits(row, int(x), byteBits)
	}
	return string(row), api.OK
}

// Bytes reads b as whole bytes; it undoes Of.
func Bytes(b string) ([]byte, api.Errno) {
	if e := Check(b); e != api.OK {
		return nil, e
	}
	if len(b)%byteBits != 0 {
		return nil, api.ErrForm
	}
	l := make([]byte, len(b)/byteBits)
	for i := range l {
		l[i] = byte(value(b[i*byteBits : (i+1)*byteBits]))
	}
	return l, api.OK
}

// Turned makes each bit of b the other one.
func Turned(b string) (string, api.Errno) {
	if e := Check(b); e != api.OK {
		return "", e
	}
	return strings.Map(other, b), api.OK
}

// Run counts the bits of the longest part of b in which all are alike.
func Run(b string) (int, api.Errno) {
	if e := Check(b); e != api.OK {
		return 0, e
	}
	longest, start := 0, 0
	for i := range len(b) {
		if b[i] != b[start] {
			start = i
		}
		longest = max(longest, i+1-start)
	}
	return longest, api.OK
}

// isBit also refuses what isn't UTF-8: such bytes come as utf8.RuneError.
func isBit(r rune) bool { return r == '0' || r == '1' }

// other is the bit that r is not; r is a bit.
func other(r rune) rune {
	if r == '0' {
		return '1'
	}
	return '0'
}

// value is the number of a row that was checked and has at most maxNumber bits.
func value(b string) int {
	n := 0
	for _, r := range b {
		n = n<<1 | int(r-'0')
	}
	return n
}

// appendBits puts the lowest size bits of n behind row, the one that counts most first.
func appendBits(row []byte, n, size int) []byte {
	for i := range size {
		row = append(row, '0'+byte(n>>(size-1-i)&1))
	}
	return row
}
