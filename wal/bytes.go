package wal

import (
	"battledore/api"
	"battledore/octet"
)

// A track is frames, one behind the other. Each is sealed, and ahead of it stands how many bytes it has; so one of which bytes are missing is no frame. The first one is a whole state with its turn; saves follow, each as a head, and a frame for each of its entries, so that of one that was interrupted the first entries may count.

// content is what a track contains.
type content struct {
	turn  uint64 // 0: there is no whole state
	state State
	shut  bool // behind the state stands something else than saves, or it ends within one
}

// wholeBytes: a whole state, as a frame.
func wholeBytes(turn uint64, s State) []byte {
	p := &octet.Writer{}
	p.Uint(turn).Uint(s.Term).Int(int64(s.Vote)).Uint(s.Base).Uint(uint64(len(s.Log)))
	for _, x := range s.Log {
		writeEntry(p, x)
	}
	out := &octet.Writer{}
	writeFrame(out, p)
	return out.Done()
}

// saveBytes: a save, as frames.
func saveBytes(term uint64, v int, from uint64, l []api.Entry) []byte {
	out, head := &octet.Writer{}, &octet.Writer{}
	writeFrame(out, head.Uint(term).Int(int64(v)).Uint(from).Uint(uint64(len(l))))
	for _, x := range l {
		p := &octet.Writer{}
		writeEntry(p, x)
		writeFrame(out, p)
	}
	return out.Done()
}

func writeFrame(out, p *octet.Writer) {
	out.Bytes(octet.Seal(p.Done()))
}

func writeEntry(w *octet.Writer, x api.Entry) {
	w.Uint(x.Term).Uint(x.Session).Uint(x.Number).Bytes(x.Cell)
}

// read: what the bytes of a track contain; the first state of all, if they don't begin with a whole one.
func read(p []byte) content {
	r := octet.NewReader(p)
	c, ok := readWhole(readFrame(r))
	if !ok {
		return content{state: State{Vote: -1}, shut: true}
	}
	for !r.End() && !c.shut {
		c.shut = !readSave(r, &c.state)
	}
	return c
}

func readWhole(r *octet.Reader) (content, bool) {
	c := content{turn: r.Uint(), state: State{Term: r.Uint(), Vote: readVote(r), Base: r.Uint()}}
	for range r.Upto(api.MaxTrack) {
		if r.Bad() {
			break
		}
		c.state.Log = append(c.state.Log, readEntry(r))
	}
	return c, r.End()
}

// readSave: the state after the next save, as far as that is there; false: it isn't there completely.
func readSave(r *octet.Reader, s *State) bool {
	head := readFrame(r)
	term, vote, from, n := head.Uint(), readVote(head), head.Uint(), head.Upto(api.MaxTrack)
	keep := from - s.Base - 1
	if !head.End() || keep > uint64(len(s.Log)) {
		return false
	}
	s.Term, s.Vote = term, vote
	if n == 0 {
		s.Log = s.Log[:keep]
	}
	for i := range n {
		p := readFrame(r)
		x := readEntry(p)
		if !p.End() {
			return false
		}
		if i == 0 { // until one of its entries is there, a save replaces none
			s.Log = s.Log[:keep]
		}
		s.Log = append(s.Log, x)
	}
	return true
}

// readFrame: a reader of the next frame's bytes; at a fault, of none.
func readFrame(r *octet.Reader) *octet.Reader {
	p, e := octet.Open(r.Bytes(api.MaxTrack))
	if e != api.OK {
		r.Fail()
	}
	return octet.NewReader(p)
}

func readVote(r *octet.Reader) int {
	v := r.Int()
	if v < -1 || v >= api.MaxNodes {
		r.Fail()
	}
	return int(v)
}

func readEntry(r *octet.Reader) api.Entry {
	return api.Entry{Term: r.Uint(), Session: r.Uint(), Number: r.Uint(), Cell: r.Bytes(api.MaxRecord)}
}
