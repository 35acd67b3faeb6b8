package replica

import (
	"battledore/api"
	"battledore/ballot"
	"battledore/notebook"
	"battledore/store"
	"battledore/wal"
)

// Start: the power goes off and on, and all is read anew.
func (r *Replica) Start(cuts []int) api.Errno {
	if r == nil {
		return api.ErrNone
	}
	r.up, r.waits, r.out, r.replies = false, nil, nil, nil
	if e := r.disk.Restart(cuts); e != api.OK {
		return e
	}
	return r.read()
}

// read: the node is up, with what is on its disk. With an error it stays down, and as it was.
func (r *Replica) read() api.Errno {
	log, e := wal.Open(r.disk, logs)
	if e != api.OK {
		return e
	}
	saved, e := store.Open(r.disk, snaps)
	if e != api.OK {
		return e
	}
	kept, snap := log.State(), saved.Snap()
	if kept.Base > snap.Index || kept.Vote >= r.config.Nodes {
		return api.ErrForm
	}
	book, e := bookOf(snap)
	if e != api.OK {
		return e
	}
	if snap.Index > kept.Base { // the power failed when the snapshot was durable, but the log wasn't shorter yet
		if e := log.Drop(snap.Index, reaches(kept.Base, kept.Log, snap)); e != api.OK {
			return e
		}
		kept = log.State()
	}
	r.log, r.store, r.up = log, saved, true
	r.book, r.applied = book, nil
	r.state = r.stateOf(kept, snap)
	return api.OK
}

// stateOf: the state of a node that knows no more than what it has kept.
func (r *Replica) stateOf(kept wal.State, snap store.Snap) ballot.State {
	s, _ := ballot.New(r.config.Nodes, r.self, r.config.Wait) // there is no error with this configuration
	s.Term, s.Vote = kept.Term, kept.Vote
	s.Base, s.BaseTerm, s.Data = snap.Index, snap.Term, snap.Data
	s.Log, s.Commit = kept.Log, snap.Index
	return s
}

// bookOf: the book of a snapshot.
func bookOf(s store.Snap) (*notebook.Book, api.Errno) {
	if s.Index == 0 {
		return notebook.New(), api.OK
	}
	b, e := notebook.Load(s.Data)
	if e == api.OK && b.Len() != s.Index {
		return nil, api.ErrForm
	}
	return b, e
}

// reaches: does a log that begins ahead of a snapshot go on behind it?
func reaches(base uint64, log []api.Entry, s store.Snap) bool {
	n := s.Index - base
	return n <= uint64(len(log)) && log[n-1].Term == s.Term
}

// keep: what is to be kept of the next state is durable. The snapshot comes first: without the entries that the log drops then, there must be one in their place.
func (r *Replica) keep(next ballot.State) api.Errno {
	log := r.state.Log
	if next.Base > r.state.Base {
		snap := store.Snap{Index: next.Base, Term: next.BaseTerm, Data: next.Data}
		stay := reaches(r.state.Base, log, snap)
		if e := r.store.Save(snap); e != api.OK {
			return e
		}
		if e := r.log.Drop(snap.Index, stay); e != api.OK {
			return e
		}
		log = r.log.State().Log
	}
	same := alike(log, next.Log)
	if next.Term == r.state.Term && next.Vote == r.state.Vote && same == len(log) && same == len(next.Log) {
		return api.OK
	}
	return r.log.Save(next.Term, next.Vote, next.Base+1+uint64(same), next.Log[same:])
}

// alike: how many of the first entries of two logs are the same. A node replaces an entry only by one of another term, so its cell needn't be looked at.
func alike(a, b []api.Entry) int {
	n := 0
	for n < min(len(a), len(b)) && a[n].Term == b[n].Term {
		n++
	}
	return n
}
