package school_test

import (
	"math"
	"math/rand"
	"slices"
	"testing"

	"battledore/api"
	"battledore/replica"
	"battledore/school"
)

// model is replicas of its own, with which it does what the chapter says, whether a step may be done or not.
type model struct {
	l       []*replica.Replica
	bag     []replica.Packet
	replies []replica.Reply
}

func modelOf(t *testing.T, c replica.Config) *model {
	t.Helper()
	m := &model{}
	for i := range c.Nodes {
		r, e := replica.New(c, i)
		if e != api.OK {
			t.Fatalf("New: %d", e)
		}
		m.l = append(m.l, r)
	}
	return m
}

// did: what a node has to send, and to answer.
func (m *model) did(i int, e api.Errno) api.Errno {
	for _, p := range m.l[i].Out() {
		if len(m.bag) < 3000 {
			m.bag = append(m.bag, p)
		}
	}
	m.replies = append(m.replies, m.l[i].Replies()...)
	return e
}

// take: the packet is no longer there.
func (m *model) take(i int) replica.Packet {
	p := m.bag[i]
	m.bag = append(slices.Clone(m.bag[:i]), m.bag[i+1:]...)
	return p
}

func (m *model) do(x school.Step) api.Errno {
	node, packet := x.I >= 0 && x.I < len(m.l), x.I >= 0 && x.I < len(m.bag)
	switch {
	case x.Kind == school.Tick && node:
		return m.did(x.I, m.l[x.I].Tick(x.N))
	case x.Kind == school.Deliver && packet:
		p := m.take(x.I)
		return m.did(p.To, m.l[p.To].In(p.Bytes, x.N))
	case x.Kind == school.Drop && packet:
		m.take(x.I)
	case x.Kind == school.Double && len(m.bag) == 3000:
		return api.ErrLong
	case x.Kind == school.Double && packet:
		m.bag = append(m.bag, m.bag[x.I])
	case x.Kind == school.Ask && node:
		return m.did(x.I, m.l[x.I].Ask(x.Session, x.Number, x.Cell))
	case x.Kind == school.Arm && node:
		return m.l[x.I].Disk().Arm(x.N)
	case x.Kind == school.Start && node:
		return m.did(x.I, m.l[x.I].Start(x.Cuts))
	case x.Kind == school.Calm && x.N >= 0 && x.N <= 1000:
		for range x.N {
			for i := range m.l {
				m.do(tick(i, i))
			}
			for len(m.bag) > 0 {
				m.do(deliver(0, m.bag[0].To))
			}
		}
	default:
		return api.ErrArg
	}
	return api.OK
}

func (m *model) leader() int {
	lead := -1
	for i, r := range m.l {
		if r.Up() && r.State().Lead == i && (lead == -1 || r.State().Term > m.l[lead].State().Term) {
			lead = i
		}
	}
	return lead
}

// chance makes steps.
type chance struct{ *rand.Rand }

func (r chance) cell() []byte {
	return []byte([]string{"let x = 1", "let x = x + 1", "x", "x +", "", "let r = ref 0", "r := !r + 1; !r", "print \"a\"; forward 3"}[r.Intn(8)])
}

// near: mostly an index of n things, sometimes none.
func (r chance) near(n int) int {
	switch k := r.Intn(60); {
	case k == 0:
		return []int{-1, n, n + 1, math.MinInt, math.MaxInt}[r.Intn(5)]
	case n == 0:
		return 0
	default:
		return r.Intn(n)
	}
}

func (r chance) cuts() []int {
	var l []int
	for range r.Intn(6) {
		l = append(l, r.Intn(600)-1)
	}
	return l
}

// step: one of all kinds, with a bag of n packets, and a node that leads, or -1.
func (r chance) step(nodes, n, lead int) school.Step {
	draw := r.Intn(12) - 2
	switch k := r.Intn(100); {
	case k < 25 || k < 71 && n == 0 && r.Intn(8) > 0:
		return tick(r.near(nodes), draw)
	case k < 60:
		return deliver(r.near(n), draw)
	case k < 66:
		return drop(r.near(n))
	case k < 71:
		return double(r.near(n))
	case k < 83:
		if lead < 0 || r.Intn(5) == 0 {
			lead = r.near(nodes)
		}
		x := ask(lead, uint64(r.Intn(5)), uint64(r.Intn(40)), "")
		x.Cell = r.cell()
		return x
	case k < 86:
		return arm(r.near(nodes), r.Intn(14)-1)
	case k < 91:
		return start(r.near(nodes), r.cuts()...)
	case k < 97:
		return calm(r.near(8))
	default:
		return school.Step{Kind: byte(r.Intn(256)), I: r.near(3), N: r.near(20), Session: r.Uint64() >> r.Intn(64), Number: r.Uint64() >> r.Intn(64), Cell: r.cell(), Cuts: r.cuts()}
	}
}

// P20.1, P1, P2: a school does what the model does, whatever the script.
func TestModel(t *testing.T) {
	made, errors := map[string]int{}, map[api.Errno]int{}
	for seed := range int64(84) {
		r := chance{rand.New(rand.NewSource(seed))}
		c := replica.Config{Nodes: 1 + int(seed)%7, Wait: 2 + r.Intn(7), Every: 1 + r.Intn(12), Most: api.MaxTrack}
		if seed%5 == 4 {
			c.Most = 50 + r.Intn(4000)
		}
		s, e := school.New(c)
		if e != api.OK {
			t.Fatalf("New: %d", e)
		}
		m := modelOf(t, c)
		for k := range 300 {
			x := r.step(c.Nodes, len(m.bag), m.leader())
			e, want := s.Do(x), m.do(x)
			errors[e]++
			if e != want {
				t.Fatalf("seed %d, step %d %s: %d, want %d", seed, k, told(x), e, want)
			}
			if told(s.Bag()) != told(m.bag) || told(s.Replies()) != told(m.replies) || s.Leader() != m.leader() {
				t.Fatalf("seed %d, step %d %s: %s\n%+v\n%+v\n%d", seed, k, told(x), whole(s), m.bag, m.replies, m.leader())
			}
			for i, n := range m.l {
				if told(s.Node(i).State()) != told(n.State()) || s.Node(i).Up() != n.Up() || s.Node(i).Disk().Ops() != n.Disk().Ops() {
					t.Fatalf("seed %d, step %d %s: the node %d is %+v, want %+v", seed, k, told(x), i, s.Node(i).State(), n.State())
				}
			}
			made["packets"] += len(m.bag)
		}
		for i, n := range m.l {
			if told(s.Node(i).Applied()) != told(n.Applied()) || told(s.Node(i).Book().Save()) != told(n.Book().Save()) {
				t.Fatalf("seed %d: the node %d has another book", seed, i)
			}
			made["entries"] += int(n.Book().Len())
		}
		made["replies"] += len(m.replies)
	}
	if made["packets"] < 40000 || made["entries"] < 2000 || made["replies"] < 800 {
		t.Errorf("how much of what: %v", made)
	}
	for _, e := range []api.Errno{api.OK, api.ErrArg, api.ErrCrash, api.ErrFull, api.ErrStale, api.ErrLeader} {
		if errors[e] < 3 {
			t.Errorf("how many of which errors: %v", errors)
		}
	}
}
