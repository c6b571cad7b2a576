package bus

import (
	"omnibus/api"
	"omnibus/queue"
)

// deed has a happening of one kind happen, and has the frames that are told of it.
type deed func(h api.Happening) ([]api.Frame, api.Errno)

// Run is l behind all that happens in script, one after the other, and which
// frames each happening told. Of one that can't be, at tells where it stands.
func Run(l []api.Node, script []api.Happening) (out []api.Node, told [][]api.Frame, at int, e api.Errno) {
	if e := Check(l); e != api.OK {
		return nil, nil, 0, e
	}
	if len(script) > api.MaxSteps {
		return nil, nil, 0, api.ErrMany
	}
	out = nodesOf(l)
	deeds := deedsOf(out)
	for i, h := range script {
		do, known := deeds[h.Kind]
		if !known || h.Node < 0 || h.Node >= len(out) {
			return nil, nil, i, api.ErrWho
		}
		frames, e := do(h)
		if e != api.OK {
			return nil, nil, i, e
		}
		told = append(told, frames)
	}
	return out, told, 0, api.OK
}

// deedsOf has what each kind of happening does to l, which it changes. The Node of
// a happening is one of l.
func deedsOf(l []api.Node) map[int]deed {
	sending := func(spoilt bool) deed {
		return func(api.Happening) ([]api.Frame, api.Errno) {
			_, told, e := send(l, spoilt)
			return told, e
		}
	}
	return map[int]deed{
		api.Queue: func(h api.Happening) ([]api.Frame, api.Errno) {
			q, e := queue.Put(l[h.Node].Queue, h.F)
			if e == api.OK {
				l[h.Node].Queue = q
			}
			return nil, e
		},
		api.Go:    sending(false),
		api.Spoil: sending(true),
		api.Rest: func(api.Happening) ([]api.Frame, api.Errno) {
			for i := range l {
				tell(l, i, api.Rested)
			}
			return nil, api.OK
		},
		api.Take: func(h api.Happening) ([]api.Frame, api.Errno) {
			got := l[h.Node].Got
			l[h.Node].Got = nil
			return got, api.OK
		},
	}
}
