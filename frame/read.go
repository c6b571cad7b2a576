package frame

import (
	"omnibus/api"
	"omnibus/bits"
	"omnibus/check"
	"omnibus/stuff"
)

// fixedBlock: the first of each so many bits of what Fixed made was put in.
const fixedBlock = 5

// rowReader reads a row from the left on, bits as they stand. The first fault
// stays: nothing is read behind it, so that no later one is told.
type rowReader struct {
	row   string
	used  int
	fault api.Errno
}

// bareReader reads what Put made, without the bits that were put in.
type bareReader struct {
	rowReader
	bare string // all that was read so
}

// frameReader reads a frame, and keeps what it knows of it so far.
type frameReader struct {
	bareReader
	api.Frame
}

// Read is the frame with whose Bits b begins, and how many bits these are.
func Read(b string) (api.Frame, int, api.Errno) {
	if e := bits.Check(b); e != api.OK {
		return api.Frame{}, 0, e
	}
	r := frameReader{bareReader: bareReader{rowReader: rowReader{row: b}}}
	r.readName()
	r.readForm()
	r.readData()
	if r.Fast {
		r.readFixed()
	} else {
		r.readSum()
	}
	r.readEnding()
	if r.fault != api.OK {
		return api.Frame{}, 0, r.fault
	}
	return r.Frame, r.used, api.OK
}

func (r *rowReader) fail(e api.Errno) {
	if r.fault == api.OK {
		r.fault = e
	}
}

// next is the next n bits; none behind a fault.
func (r *rowReader) next(n int) string {
	if n > len(r.row)-r.used {
		r.fail(api.ErrShort)
	}
	if r.fault != api.OK {
		return ""
	}
	r.used += n
	return r.row[r.used-n : r.used]
}

// take is the next n of the bits that Put was given; none behind a fault. What
// was put in behind the last of them is read with it.
func (r *bareReader) take(n int) string {
	if r.fault != api.OK {
		return ""
	}
	// From the start: how many are alike ahead of a bit hangs on all that was read.
	bare, used, e := stuff.Take(r.row, len(r.bare)+n)
	if e != api.OK {
		r.fail(e)
		return ""
	}
	l := bare[len(r.bare):]
	r.bare, r.used = bare, used
	return l
}

// number is the next n bits as a number; 0 behind a fault.
func (r *bareReader) number(n int) int {
	x, _ := bits.Number(r.take(n))
	return x
}

// want reads bits that must be as those of l. They are taken one by one, since
// a wrong one is told ahead of whatever is wrong with the next.
func (r *bareReader) want(l string) {
	for i := range len(l) {
		if r.take(1) != l[i:i+1] {
			r.fail(api.ErrForm)
		}
	}
}

func (r *frameReader) readName() {
	r.want("0")
	r.ID = r.number(idBits)
	// Only the bit behind it says whether this one is Remote, or must be 1.
	first := r.take(1)
	r.Long = r.take(1) == "1"
	if !r.Long {
		r.Remote = first == "1"
		return
	}
	if first != "1" {
		r.fail(api.ErrForm)
	}
	r.ID = r.ID<<moreBits | r.number(moreBits)
	r.Remote = r.take(1) == "1"
}

func (r *frameReader) readForm() {
	r.Fast = r.take(1) == "1"
	switch {
	case r.Fast && r.Remote:
		r.fail(api.ErrForm)
	case r.Fast:
		r.want("010")
	case r.Long:
		r.want("0")
	}
}

func (r *frameReader) readData() {
	size := sizes[r.number(codeBits)]
	if size > maxData(r.Fast) {
		r.fail(api.ErrForm)
	}
	if r.Remote {
		r.Size = size
		return
	}
	r.Data, _ = bits.Bytes(r.take(size * byteBits))
}

func (r *frameReader) readSum() {
	sum, _ := check.Sum(plainSum, r.bare)
	if r.take(len(sum)) != sum {
		r.fail(api.ErrCheck)
	}
}

// readFixed reads all that is Fixed ahead of looking at any of it.
func (r *frameReader) readFixed() {
	if r.fault != api.OK {
		return
	}
	ahead := r.row[:r.used]
	want := fixedPart(ahead, len(ahead)-len(r.bare), len(r.Data))
	got := r.next(len(want))
	// What was put in hangs on the bits that came, be they right or wrong.
	again, _ := stuff.Fixed(unfixed(got), ahead[len(ahead)-1])
	switch {
	case got != again:
		r.fail(api.ErrStuff)
	case got != want:
		r.fail(api.ErrCheck)
	}
}

func (r *frameReader) readEnding() {
	if l := r.next(len(ending)); l != ending && l != heard {
		r.fail(api.ErrForm)
	}
}

// unfixed leaves out what Fixed put in.
func unfixed(b string) string {
	var row []byte
	for i := range len(b) {
		if i%fixedBlock != 0 {
			row = append(row, b[i])
		}
	}
	return string(row)
}
