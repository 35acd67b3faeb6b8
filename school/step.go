package school

import (
	"slices"

	"battledore/api"
)

// Do: a step of a script.
func (s *School) Do(x Step) api.Errno {
	if s == nil {
		return api.ErrNone
	}
	if e := s.check(x); e != api.OK {
		return e
	}
	return s.act(x)
}

// check: may this step be done?
func (s *School) check(x Step) api.Errno {
	ok := false
	switch x.Kind {
	case Tick, Ask, Arm, Start:
		ok = inside(x.I, len(s.nodes))
	case Double:
		if len(s.bag) >= Most { // the chapter names this error first
			return api.ErrLong
		}
		fallthrough
	case Deliver, Drop:
		ok = inside(x.I, len(s.bag))
	case Calm:
		ok = inside(x.N, rounds+1)
	}
	if !ok {
		return api.ErrArg
	}
	return api.OK
}

// act: a step that may be done.
func (s *School) act(x Step) api.Errno {
	e := api.OK
	switch x.Kind {
	case Tick:
		e = s.nodes[x.I].Tick(x.N)
	case Deliver:
		return s.deliver(x.I, x.N)
	case Drop:
		s.bag = slices.Delete(s.bag, x.I, x.I+1)
	case Double:
		s.bag = append(s.bag, s.bag[x.I]) // nothing changes a packet's bytes, so both may have the same
	case Ask:
		e = s.nodes[x.I].Ask(x.Session, x.Number, x.Cell)
	case Arm:
		e = s.nodes[x.I].Disk().Arm(x.N)
	case Start:
		e = s.nodes[x.I].Start(x.Cuts)
	case Calm:
		s.calm(x.N)
	}
	s.gather()
	return e
}

// deliver: a packet leaves the bag for the node that it is to, even if that one is down, or refuses it.
func (s *School) deliver(i, draw int) api.Errno {
	p := s.bag[i]
	s.bag = slices.Delete(s.bag, i, i+1)
	e := s.nodes[p.To].In(p.Bytes, draw)
	s.gather()
	return e
}

// calm: so many rounds in which nothing is lost. A node that is down doesn't end them, so errors count for nothing.
func (s *School) calm(n int) {
	for range n {
		for i, r := range s.nodes {
			r.Tick(i)
		}
		s.gather()
		for len(s.bag) > 0 {
			s.deliver(0, s.bag[0].To)
		}
	}
}

// gather: what the nodes send is under way, as far as there is room; what they have answered is answered.
func (s *School) gather() {
	for _, r := range s.nodes {
		out := r.Out()
		s.bag = append(s.bag, out[:min(len(out), Most-len(s.bag))]...)
		s.replies = append(s.replies, r.Replies()...)
	}
}
