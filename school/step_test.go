package school_test

import (
	"math"
	"strings"
	"testing"

	"battledore/api"
	"battledore/ballot"
	"battledore/replica"
	"battledore/school"
)

// P20.1: a tick of one node, with its draw; what it sends is under way.
func TestTick(t *testing.T) {
	for _, x := range [][2]int{{-1, 4}, {0, 4}, {3, 7}, {4, 8}, {5, 8}, {math.MaxInt, 8}, {math.MinInt, 4}} {
		c := usual(3)
		c.Wait = 4
		s := made(t, c)
		for n := 3; n > 0; n-- {
			does(t, s, tick(1, x[0]), api.OK)
			left(t, s, 1, n)
			ways(t, s)
		}
		does(t, s, tick(1, x[0]), api.OK)
		left(t, s, 1, x[1])
		left(t, s, 0, 4)
		left(t, s, 2, 4)
		ways(t, s, way{1, 0, ballot.VoteAsk}, way{1, 2, ballot.VoteAsk})
	}
}

// P20.1: the packet is received by its To, with the draw, and is gone; what is sent then comes after all others.
func TestDeliver(t *testing.T) {
	s := made(t, usual(5))
	stands(t, s, 2, 0)
	ways(t, s, way{2, 0, ballot.VoteAsk}, way{2, 1, ballot.VoteAsk}, way{2, 3, ballot.VoteAsk}, way{2, 4, ballot.VoteAsk})
	does(t, s, deliver(2, 3), api.OK)
	left(t, s, 3, 8)
	left(t, s, 0, 5)
	ways(t, s, way{2, 0, ballot.VoteAsk}, way{2, 1, ballot.VoteAsk}, way{2, 4, ballot.VoteAsk}, way{3, 2, ballot.VoteTell})
	does(t, s, deliver(0, -7), api.OK)
	left(t, s, 0, 5)
	does(t, s, deliver(2, 0), api.OK)
	ways(t, s, way{2, 1, ballot.VoteAsk}, way{2, 4, ballot.VoteAsk}, way{0, 2, ballot.VoteTell})
	does(t, s, deliver(2, 0), api.OK)
	ways(t, s, way{2, 1, ballot.VoteAsk}, way{2, 4, ballot.VoteAsk},
		way{2, 0, ballot.LogAsk}, way{2, 1, ballot.LogAsk}, way{2, 3, ballot.LogAsk}, way{2, 4, ballot.LogAsk})
	does(t, s, deliver(4, 0), api.OK)
	if x := s.Node(3).State(); x.Lead != 2 || len(x.Log) != 1 {
		t.Errorf("the node 3 is %+v", x)
	}
	does(t, s, deliver(0, 99), api.OK) // it votes, although it isn't needed
	left(t, s, 1, 10)
	ways(t, s, way{2, 4, ballot.VoteAsk}, way{2, 0, ballot.LogAsk}, way{2, 1, ballot.LogAsk}, way{2, 4, ballot.LogAsk},
		way{3, 2, ballot.LogTell}, way{1, 2, ballot.VoteTell})
}

// P20.1: a packet is gone also if its To is down, or refuses it; then the error is the replica's.
func TestDeliverErrors(t *testing.T) {
	s := made(t, usual(3))
	leads(t, s, 0)
	does(t, s, tick(0, 0), api.OK)
	stands(t, s, 1, 0)
	ways(t, s, way{0, 1, ballot.LogAsk}, way{0, 2, ballot.LogAsk}, way{1, 0, ballot.VoteAsk}, way{1, 2, ballot.VoteAsk})
	does(t, s, deliver(0, 0), api.ErrStale) // what it tells of its term is sent
	ways(t, s, way{0, 2, ballot.LogAsk}, way{1, 0, ballot.VoteAsk}, way{1, 2, ballot.VoteAsk}, way{1, 0, ballot.LogTell})
	does(t, s, arm(2, 1), api.OK)
	before := s.Node(2).State()
	does(t, s, deliver(0, 0), api.ErrCrash)
	ways(t, s, way{1, 0, ballot.VoteAsk}, way{1, 2, ballot.VoteAsk}, way{1, 0, ballot.LogTell})
	does(t, s, deliver(1, 0), api.ErrCrash)
	ways(t, s, way{1, 0, ballot.VoteAsk}, way{1, 0, ballot.LogTell})
	if s.Node(2).Up() || told(s.Node(2).State()) != told(before) {
		t.Error("the node 2 has received something")
	}
}

// P20.1: Drop: the packet is gone, and nothing else happens. Double: it is there once more, after all others.
func TestDropAndDouble(t *testing.T) {
	s := made(t, usual(4))
	stands(t, s, 1, 0)
	a, b, c := way{1, 0, ballot.VoteAsk}, way{1, 2, ballot.VoteAsk}, way{1, 3, ballot.VoteAsk}
	before := states(s)
	does(t, s, double(1), api.OK)
	ways(t, s, a, b, c, b)
	does(t, s, double(3), api.OK)
	ways(t, s, a, b, c, b, b)
	does(t, s, double(0), api.OK)
	ways(t, s, a, b, c, b, b, a)
	l := s.Bag()
	if string(l[5].Bytes) != string(l[0].Bytes) || string(l[1].Bytes) != string(l[3].Bytes) || string(l[1].Bytes) != string(l[4].Bytes) {
		t.Error("there is another packet")
	}
	does(t, s, drop(1), api.OK)
	ways(t, s, a, c, b, b, a)
	does(t, s, drop(4), api.OK)
	ways(t, s, a, c, b, b)
	does(t, s, drop(0), api.OK)
	ways(t, s, c, b, b)
	if states(s) != before {
		t.Error("a node has changed")
	}
	does(t, s, deliver(1, 2), api.OK)
	does(t, s, deliver(1, 0), api.OK)
	ways(t, s, c, way{2, 1, ballot.VoteTell}, way{2, 1, ballot.VoteTell})
}

// P20.1: at most Most packets are under way: one more isn't doubled, and what a node sends is lost from there on.
func TestMost(t *testing.T) {
	s := made(t, usual(4))
	stands(t, s, 0, 0)
	for n := 3; n < school.Most; n++ {
		does(t, s, double(n%3), api.OK)
	}
	full := told(s.Bag())
	for _, i := range []int{0, 1, 2999} {
		does(t, s, double(i), api.ErrLong)
	}
	stands(t, s, 1, 0)
	if told(s.Bag()) != full {
		t.Error("there is room for more")
	}
	tail := func(n int, want ...way) {
		t.Helper()
		l := s.Bag()
		if len(l) != n {
			t.Fatalf("%d packets, want %d", len(l), n)
		}
		for i, x := range want {
			p := l[n-len(want)+i]
			if m, _ := ballot.Decode(p.Bytes); x != (way{p.From, p.To, m.Kind}) {
				t.Errorf("at %d there is one from %d to %d, want %v", i, p.From, p.To, x)
			}
		}
	}
	does(t, s, deliver(1, 0), api.OK) // the one that is received makes room
	tail(3000, way{2, 0, ballot.VoteTell})
	does(t, s, double(5), api.ErrLong)
	does(t, s, drop(0), api.OK)
	does(t, s, drop(0), api.OK)
	stands(t, s, 1, 0) // of three packets the last one is lost
	tail(3000, way{2, 0, ballot.VoteTell}, way{1, 0, ballot.VoteAsk}, way{1, 2, ballot.VoteAsk})
	does(t, s, drop(0), api.OK)
	does(t, s, double(2998), api.OK)
	tail(3000, way{1, 0, ballot.VoteAsk}, way{1, 2, ballot.VoteAsk}, way{1, 2, ballot.VoteAsk})
	does(t, s, calm(1), api.OK)
	tail(0)
}

// P20.1: what is asked of a node is answered; the errors are the replica's.
func TestAsk(t *testing.T) {
	s := made(t, usual(3))
	does(t, s, ask(0, 1, 1, "1"), api.ErrLeader)
	leads(t, s, 1)
	does(t, s, ask(0, 1, 1, "1"), api.ErrLeader)
	does(t, s, ask(1, 0, 1, "1"), api.ErrArg)
	does(t, s, ask(1, 1, 0, "1"), api.ErrArg)
	does(t, s, ask(1, 1, 1, strings.Repeat(" ", api.MaxSource+1)), api.ErrLong)
	ways(t, s)
	replies(t, s)
	does(t, s, ask(1, 7, 1, "let x = 20"), api.OK)
	ways(t, s, way{1, 0, ballot.LogAsk}, way{1, 2, ballot.LogAsk})
	does(t, s, ask(1, 8, 5, "x + 1"), api.OK)
	does(t, s, ask(1, 7, 1, "let x = 30"), api.OK)
	does(t, s, ask(1, 8, 4, "x"), api.OK)
	replies(t, s)
	does(t, s, calm(1), api.OK)
	first := []replica.Reply{
		{Session: 7, Number: 1, Data: outcome("let x = 20")},
		{Session: 8, Number: 5, Data: outcome("let x = 20", "x + 1")},
		{Session: 7, Number: 1, Data: outcome("let x = 20")},
		{Session: 8, Number: 4, E: api.ErrStale},
	}
	replies(t, s, first...)
	replies(t, s, first...)
	does(t, s, calm(1), api.OK)
	does(t, s, ask(2, 8, 5, "x + 3"), api.OK) // also by one that doesn't lead
	does(t, s, ask(2, 8, 4, "x + 3"), api.OK)
	ways(t, s)
	replies(t, s, append(first, first[1], first[3])...)
	does(t, s, arm(1, 1), api.OK)
	does(t, s, ask(1, 9, 1, "1"), api.ErrCrash)
	does(t, s, ask(1, 9, 1, "1"), api.ErrCrash)
	does(t, s, ask(1, 0, 1, "1"), api.ErrCrash)
	does(t, s, tick(1, 0), api.ErrCrash)
	ways(t, s)
	replies(t, s, append(first, first[1], first[3])...)
}

// P20.1: the disk of a node is armed; it is started with the cuts.
func TestArmAndStart(t *testing.T) {
	for cut, want := range map[int]uint64{-1: 0, 0: 0, 1: 0, 1 << 20: 1} {
		s := made(t, usual(3))
		does(t, s, arm(1, -1), api.ErrArg)
		does(t, s, arm(1, math.MinInt), api.ErrArg)
		does(t, s, arm(1, 1), api.OK)
		does(t, s, arm(1, -1), api.ErrArg)
		does(t, s, arm(1, 0), api.OK)
		does(t, s, arm(2, 2), api.OK)
		stands(t, s, 1, 0)
		does(t, s, deliver(1, 0), api.ErrCrash)
		for i := range 3 {
			if s.Node(i).Up() != (i < 2) || s.Node(i).Disk().On() != (i < 2) {
				t.Errorf("which of them are up: %s", states(s))
			}
		}
		does(t, s, arm(2, 1), api.OK)
		does(t, s, tick(2, 0), api.ErrCrash)
		does(t, s, start(2, cut, cut, cut), api.OK)
		if x := s.Node(2).State(); !s.Node(2).Up() || x.Term != want || x.Vote != int(want*2)-1 {
			t.Errorf("with the cut %d it begins with %+v", cut, x)
		}
		does(t, s, tick(2, 0), api.OK)
		does(t, s, start(1), api.OK)
		if x := s.Node(1).State(); x.Term != 1 || x.Vote != 1 || x.Role != ballot.Follower || x.Left != 3 {
			t.Errorf("the node 1 begins with %+v", x)
		}
		ways(t, s, way{1, 0, ballot.VoteAsk}) // what was sent is under way
	}
}

// P20.1: a node that fails has nothing to send, and answers nothing.
func TestCrashIsSilent(t *testing.T) {
	c := usual(1)
	c.Every = 3
	for n := 1; ; n++ {
		s := made(t, c)
		stands(t, s, 0, 0)
		does(t, s, ask(0, 1, 1, "let x = 1"), api.OK)
		does(t, s, arm(0, n), api.OK)
		if s.Do(ask(0, 1, 2, "x + 1")) == api.OK {
			break
		}
		replies(t, s, replica.Reply{Session: 1, Number: 1, Data: outcome("let x = 1")})
		does(t, s, start(0, 1<<20, 1<<20, 1<<20, 1<<20), api.OK)
		replies(t, s, replica.Reply{Session: 1, Number: 1, Data: outcome("let x = 1")})
	}
}

// P20.1: a round of a Calm is a tick of all nodes, with their numbers as draws, and then all packets, from the first on, with their To as draws.
func TestCalm(t *testing.T) {
	for n := 1; n <= api.MaxNodes; n++ {
		for _, mess := range []int{0, 1, 5, 30} {
			a, b := made(t, usual(n)), made(t, usual(n))
			both := func(x school.Step) {
				t.Helper()
				if e, want := a.Do(x), b.Do(x); e != want {
					t.Fatalf("%s: %d, %d", told(x), e, want)
				}
			}
			for i := range mess { // some packets, a node that is down
				both(tick((i+i/3)%n, i%4))
				both(deliver(0, 2))
				both(arm(n/2, mess%4))
				both(double(0))
			}
			does(t, a, calm(0), api.OK)
			for k := range 30 {
				does(t, a, calm(1+k%2), api.OK)
				for range 1 + k%2 {
					for i := range n {
						b.Do(tick(i, i))
					}
					for len(b.Bag()) > 0 {
						b.Do(deliver(0, b.Bag()[0].To))
					}
				}
				if k == 20 {
					both(ask(a.Leader(), 1, 1, "let x = 1"))
				}
				if whole(a) != whole(b) {
					t.Fatalf("after %d rounds:\n%s, want\n%s", k, whole(a), whole(b))
				}
			}
		}
	}
}

// P20.1: a Calm of the greatest number, in which a node is down; the draws are the nodes' numbers.
func TestCalmAtTheLimit(t *testing.T) {
	c := usual(3)
	s := made(t, c)
	does(t, s, arm(2, 1), api.OK)
	does(t, s, calm(3), api.OK)
	left(t, s, 0, 3)
	left(t, s, 1, 4)
	does(t, s, calm(1000), api.OK)
	if s.Leader() != 0 || s.Node(2).Up() || s.Node(1).State().Lead != 0 {
		t.Errorf("it is %s", states(s))
	}
	ways(t, s)
}

// P20.1, P1: kinds, nodes, indices and numbers of rounds that there aren't; nothing changes.
func TestErrArg(t *testing.T) {
	s := made(t, usual(3))
	leads(t, s, 2)
	does(t, s, ask(2, 1, 1, "1"), api.OK)
	ways(t, s, way{2, 0, ballot.LogAsk}, way{2, 1, ballot.LogAsk})
	before := whole(s)
	far := []int{math.MinInt, -1, math.MaxInt}
	for k := int(school.Calm) + 1; k < 256; k++ {
		does(t, s, school.Step{Kind: byte(k), Session: 1, Number: 1}, api.ErrArg)
	}
	for _, k := range []byte{school.Tick, school.Ask, school.Arm, school.Start} {
		for _, i := range append(far, 3, 4) {
			does(t, s, school.Step{Kind: k, I: i, N: 1, Session: 1, Number: 2}, api.ErrArg)
		}
	}
	for _, k := range []byte{school.Deliver, school.Drop, school.Double} {
		for _, i := range append(far, 2, 3) {
			does(t, s, school.Step{Kind: k, I: i}, api.ErrArg)
		}
	}
	for _, n := range append(far, 1001) {
		does(t, s, calm(n), api.ErrArg)
	}
	if whole(s) != before {
		t.Errorf("%s, want %s", whole(s), before)
	}
	does(t, s, school.Step{Kind: school.Calm, I: -1, N: 1}, api.OK) // a Calm has no node
	does(t, s, drop(0), api.ErrArg)
	does(t, s, double(0), api.ErrArg)
	does(t, s, deliver(0, 0), api.ErrArg)
}

// P20.1: for a Double, ErrLong comes ahead of ErrArg, as the chapter names them.
func TestErrLongFirst(t *testing.T) {
	s := made(t, usual(2))
	stands(t, s, 0, 0)
	does(t, s, double(1), api.ErrArg)
	for range school.Most - 1 {
		does(t, s, double(0), api.OK)
	}
	for _, i := range []int{0, 2999, 3000, -1, math.MaxInt} {
		does(t, s, double(i), api.ErrLong)
		if i < 0 || i >= school.Most {
			does(t, s, drop(i), api.ErrArg)
			does(t, s, deliver(i, 0), api.ErrArg)
		}
	}
	if len(s.Bag()) != school.Most {
		t.Errorf("%d packets", len(s.Bag()))
	}
}

// P1: a Calm ends, even if there is as much under way as there may be, and the nodes have logs that differ everywhere.
func TestStorm(t *testing.T) {
	s := made(t, usual(3))
	for turn := range 60 {
		i := turn % 2
		does(t, s, start(i), api.OK)
		for s.Node(i).State().Term <= s.Node(2).State().Term {
			empty(t, s)
			stands(t, s, i, 0)
		}
		for s.Node(i).State().Role != ballot.Leader {
			if p := s.Bag()[0]; p.To == 1-i {
				does(t, s, drop(0), api.OK) // the two never learn of each other's entries
			} else {
				s.Do(deliver(0, 0))
			}
		}
		empty(t, s)
	}
	if a, b := s.Node(0).State(), s.Node(1).State(); len(a.Log) < 30 || len(b.Log) < 30 {
		t.Fatalf("%s", states(s))
	}
	does(t, s, tick(1, 0), api.OK)
	for n := len(s.Bag()); n < school.Most; n++ {
		does(t, s, double(0), api.OK)
	}
	does(t, s, calm(20), api.OK)
	does(t, s, ask(s.Leader(), 1, 1, "1"), api.OK)
	for n := len(s.Bag()); n < school.Most; n++ {
		does(t, s, double(n%2), api.OK)
	}
	does(t, s, calm(20), api.OK)
	replies(t, s, replica.Reply{Session: 1, Number: 1, Data: outcome("1")})
}
