package message

import (
	"omnibus/api"
	"omnibus/frame"
	"omnibus/signal"
)

// putter has data with a signal in it, as it is to be there.
type putter func(s api.Signal, data []byte) ([]byte, api.Errno)

// Read has what each signal of m that is there in f means.
func Read(m api.Message, f api.Frame) ([]api.Reading, api.Errno) {
	if e := Check(m); e != api.OK {
		return nil, e
	}
	if e := frame.Check(f); e != api.OK {
		return nil, e
	}
	switch {
	case !isOf(f, m) || f.Remote:
		return nil, api.ErrWho
	case len(f.Data) < m.Size:
		return nil, api.ErrShort
	}
	there := isThere(m, f.Data)
	var out []api.Reading
	for _, s := range m.Signals {
		if there(s) {
			_, r, _ := signal.Read(s, f.Data) // it fits: Check took it in as many bytes or fewer
			out = append(out, r)
		}
	}
	return out, api.OK
}

// Write is the frame of m in which the signals mean what l tells.
func Write(m api.Message, l []api.Reading) (api.Frame, api.Errno) {
	if e := Check(m); e != api.OK {
		return api.Frame{}, e
	}
	told := byName(l)
	if len(told) < len(l) {
		return api.Frame{}, api.ErrTwice
	}
	data, e := fill(m, func(s api.Signal, data []byte) ([]byte, api.Errno) {
		r, ok := told[s.Name]
		if !ok {
			return nil, api.ErrLost
		}
		delete(told, s.Name) // so what is left at last is what no signal asked for
		return signal.Write(s, data, r.Num, r.Den)
	})
	switch {
	case e != api.OK:
		return api.Frame{}, e
	case len(told) > 0:
		return api.Frame{}, api.ErrWho
	}
	return api.Frame{ID: m.ID, Long: m.Long, Data: data}, api.OK
}

// Repack is the frame of to whose signals mean, as far as they can, what those of
// the same names mean in f, a frame of from.
func Repack(from, to api.Message, f api.Frame) (api.Frame, api.Errno) {
	if e := Check(to); e != api.OK {
		return api.Frame{}, e
	}
	l, e := Read(from, f)
	if e != api.OK {
		return api.Frame{}, e
	}
	told := byName(l)
	data, _ := fill(to, func(s api.Signal, data []byte) ([]byte, api.Errno) {
		r, ok := told[s.Name]
		out, e := signal.Write(s, data, r.Num, r.Den)
		if !ok || e != api.OK {
			return data, api.OK // its bits stay 0
		}
		return out, api.OK
	})
	return api.Frame{ID: to.ID, Long: to.Long, Data: data}, api.OK
}

// byName has the readings of l by their names; of several of one name the last.
func byName(l []api.Reading) map[string]api.Reading {
	out := map[string]api.Reading{}
	for _, r := range l {
		out[r.Name] = r
	}
	return out
}

// isThere has the call that tells whether a signal of m is there in data: it asks
// the Chooser but once.
func isThere(m api.Message, data []byte) func(s api.Signal) bool {
	chosen := -1
	if m.Chooser >= 0 {
		chosen, _, _ = signal.Read(m.Signals[m.Chooser], data)
	}
	return func(s api.Signal) bool { return s.Key == -1 || s.Key == chosen }
}

// fill is the data of m, from bytes of 0 on: the Chooser is put first, since it
// says which of the others are there.
func fill(m api.Message, put putter) ([]byte, api.Errno) {
	data := make([]byte, m.Size)
	e := api.OK
	if m.Chooser >= 0 {
		if data, e = put(m.Signals[m.Chooser], data); e != api.OK {
			return nil, e
		}
	}
	there := isThere(m, data)
	for i, s := range m.Signals {
		if i == m.Chooser || !there(s) {
			continue
		}
		if data, e = put(s, data); e != api.OK {
			return nil, e
		}
	}
	return data, api.OK
}
