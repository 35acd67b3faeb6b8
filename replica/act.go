package replica

import (
	"bytes"
	"slices"

	"battledore/api"
	"battledore/ballot"
	"battledore/store"
)

// wait is a number of a session that is answered when the entry of an index is applied.
type wait struct {
	index   uint64
	session uint64
	number  uint64
}

// ready: ErrNone, if there is no node; ErrCrash, if it isn't up.
func (r *Replica) ready() api.Errno {
	if r == nil {
		return api.ErrNone
	}
	if !r.Up() {
		return api.ErrCrash
	}
	return api.OK
}

// Tick: a tick goes by.
func (r *Replica) Tick(draw int) api.Errno {
	if e := r.ready(); e != api.OK {
		return e
	}
	return r.take(ballot.Tick(r.state, draw))
}

// In: a packet's bytes come.
func (r *Replica) In(b []byte, draw int) api.Errno {
	if e := r.ready(); e != api.OK {
		return e
	}
	m, e := ballot.Decode(b)
	if e != api.OK {
		return e
	}
	if m.Kind == ballot.SnapAsk && m.Index > r.state.Commit {
		if _, e := bookOf(store.Snap{Index: m.Index, Data: m.Data}); e != api.OK {
			return api.ErrForm
		}
	}
	next, out, e := ballot.Receive(r.state, m, draw)
	if failed := r.take(next, out); failed != api.OK {
		return failed
	}
	return e
}

// Ask: somebody asks a cell; it is answered at once, if it was done already, or can't be; else when it is done.
func (r *Replica) Ask(session, number uint64, cell []byte) api.Errno {
	if e := r.ready(); e != api.OK {
		return e
	}
	if session == 0 || number == 0 {
		return api.ErrArg
	}
	if data, e := r.book.Ask(session, number); e != api.ErrNone {
		r.replies = append(r.replies, Reply{Session: session, Number: number, E: e, Data: data})
		return api.OK
	}
	next, out, index, e := ballot.Propose(r.state, session, number, cell)
	if e != api.OK {
		return e
	}
	r.waits = append(r.waits, wait{index: index, session: session, number: number})
	return r.take(next, out)
}

// take: the next state takes effect. What is to be kept of it is durable ahead of all that shows it; without that the node is down.
func (r *Replica) take(next ballot.State, out []ballot.Msg) api.Errno {
	if e := r.keep(next); e != api.OK {
		r.up = false
		return e
	}
	r.state = next
	for _, m := range out {
		r.out = append(r.out, Packet{From: m.From, To: m.To, Bytes: ballot.Encode(m)})
	}
	if next.Base > r.book.Len() {
		r.adopt()
	}
	r.apply()
	if r.book.Len()-next.Base < uint64(r.config.Every) {
		return api.OK
	}
	return r.compact()
}

// adopt: the book is that of a snapshot that was received; In has seen that it is one. The entries that it stands for are never applied here, so nobody waits for them any more.
func (r *Replica) adopt() {
	if b, e := bookOf(store.Snap{Index: r.state.Base, Data: r.state.Data}); e == api.OK {
		r.book, r.applied = b, nil
	}
	r.waits = slices.DeleteFunc(r.waits, func(w wait) bool { return w.index <= r.state.Base })
}

// apply: the entries that are committed by now, one by one.
func (r *Replica) apply() {
	for r.book.Len() < r.state.Commit {
		i := r.book.Len() - r.state.Base
		if i >= uint64(len(r.state.Log)) { // layer 16 commits nothing that isn't there
			return
		}
		x := r.state.Log[i]
		data, e := r.book.Apply(x)
		r.applied = append(r.applied, x)
		r.answer(x, data, e)
	}
}

// answer: those who wait for the entry that was applied last, in the order in which they have asked. If it is of somebody else, another leader has replaced theirs.
func (r *Replica) answer(x api.Entry, data []byte, e api.Errno) {
	var later []wait
	for _, w := range r.waits {
		switch {
		case w.index != r.book.Len():
			later = append(later, w)
		case w.session == x.Session && w.number == x.Number:
			r.replies = append(r.replies, Reply{Session: w.session, Number: w.number, E: e, Data: bytes.Clone(data)})
		default:
			r.replies = append(r.replies, Reply{Session: w.session, Number: w.number, E: api.ErrLeader})
		}
	}
	r.waits = later
}

// compact: a snapshot stands for what the book has.
func (r *Replica) compact() api.Errno {
	next, e := ballot.Compact(r.state, r.book.Len(), r.book.Save())
	if e != api.OK {
		return e
	}
	return r.take(next, nil)
}
