package school_test

import (
	"math"
	"testing"

	"battledore/api"
	"battledore/replica"
	"battledore/school"
)

// P20.1: the numbers of the kinds of steps, and how many packets there may be.
func TestNumbers(t *testing.T) {
	l := []byte{school.Tick, school.Deliver, school.Drop, school.Double, school.Ask, school.Arm, school.Start, school.Calm}
	for i, k := range l {
		if k != byte(i) {
			t.Errorf("the kind %d has the number %d", i, k)
		}
	}
	if school.Most != 3000 {
		t.Errorf("Most = %d", school.Most)
	}
}

// P20.1: a new school has Nodes new replicas, each with its number, nothing under way, no replies, no leader.
func TestNew(t *testing.T) {
	for _, c := range []replica.Config{
		usual(1), usual(2), usual(3), usual(4), usual(5), usual(6), usual(7),
		{Nodes: 7, Wait: 2, Every: 1, Most: 1}, {Nodes: 1, Wait: 1000, Every: 1000, Most: api.MaxTrack},
	} {
		s := made(t, c)
		for i := range c.Nodes {
			r, _ := replica.New(c, i)
			x := s.Node(i)
			if !x.Up() || told(x.State()) != told(r.State()) || x.Book().Len() != 0 || x.Disk().Most() != c.Most || x.Disk().Tracks() != replica.Tracks {
				t.Errorf("the node %d of %v is %+v", i, c, x.State())
			}
			for k := range i {
				if s.Node(k) == x || s.Node(k).Disk() == x.Disk() {
					t.Errorf("the nodes %d and %d are the same", k, i)
				}
			}
			if s.Node(i) != x {
				t.Errorf("there are two nodes %d", i)
			}
		}
		for _, i := range []int{-1, c.Nodes, c.Nodes + 1, math.MaxInt, math.MinInt} {
			if s.Node(i) != nil {
				t.Errorf("there is a node %d of %v", i, c)
			}
		}
		ways(t, s)
		replies(t, s)
		if s.Leader() != -1 {
			t.Errorf("%d leads", s.Leader())
		}
	}
}

// P20.1: the error of replica.New.
func TestNewErrors(t *testing.T) {
	for _, c := range []replica.Config{
		{}, {Nodes: 0, Wait: 2, Every: 1, Most: 1}, {Nodes: -1, Wait: 2, Every: 1, Most: 1}, {Nodes: 8, Wait: 8, Every: 1, Most: 1},
		{Nodes: math.MinInt, Wait: 2, Every: 1, Most: 1}, {Nodes: math.MaxInt, Wait: 2, Every: 1, Most: 1},
		{Nodes: 1, Wait: 1, Every: 1, Most: 1}, {Nodes: 1, Wait: 1001, Every: 1, Most: 1},
		{Nodes: 1, Wait: 2, Every: 0, Most: 1}, {Nodes: 1, Wait: 2, Every: 1001, Most: 1},
		{Nodes: 1, Wait: 2, Every: 1, Most: 0}, {Nodes: 1, Wait: 2, Every: 1, Most: api.MaxTrack + 1},
	} {
		if s, e := school.New(c); s != nil || e != api.ErrArg {
			t.Errorf("New(%v): %d", c, e)
		}
	}
}

// P20.3, P1: 6 Wait + 40.
func TestSettle(t *testing.T) {
	for _, x := range [][2]int{{2, 52}, {3, 58}, {7, 82}, {160, 1000}, {1000, 6040}, {0, 40}, {-10, -20}} {
		for _, nodes := range []int{0, 1, 7} {
			if n := school.Settle(replica.Config{Nodes: nodes, Wait: x[0], Every: nodes}); n != x[1] {
				t.Errorf("Settle of %d is %d", x[0], n)
			}
		}
	}
	school.Settle(replica.Config{Wait: math.MaxInt})
	school.Settle(replica.Config{Wait: math.MinInt})
}

// P20.1, P1: no school.
func TestNil(t *testing.T) {
	var s *school.School
	if s.Leader() != -1 || len(s.Bag()) != 0 || len(s.Replies()) != 0 {
		t.Error("there is something")
	}
	for _, i := range []int{-1, 0, 1, math.MaxInt, math.MinInt} {
		if s.Node(i) != nil {
			t.Errorf("there is a node %d", i)
		}
		for k := range 256 {
			does(t, s, school.Step{Kind: byte(k), I: i, N: i, Session: 1, Number: 1}, api.ErrNone)
		}
	}
}

// P20.1: of the nodes that are up and lead, the one with the greatest term.
func TestLeader(t *testing.T) {
	is := func(s *school.School, want int) {
		t.Helper()
		if i := s.Leader(); i != want {
			t.Errorf("%d leads, want %d: %s", i, want, states(s))
		}
	}
	for _, l := range [][]int{{0, 1, 2}, {2, 1, 0}, {1, 2, 0}, {1, 0, 2}} {
		s := made(t, usual(3))
		is(s, -1)
		stands(t, s, l[0], 1)
		is(s, -1) // it asks for votes, but has none
		does(t, s, deliver(0, 0), api.OK)
		is(s, -1)
		does(t, s, deliver(1, 0), api.OK)
		is(s, l[0])
		empty(t, s)
		for s.Node(l[1]).State().Term < 3 {
			stands(t, s, l[1], 0)
		}
		is(s, l[0])
		for s.Node(l[0]).State().Role == 2 && s.Leader() == l[0] {
			p := s.Bag()[0]
			if p.To == l[0] || p.From == l[0] { // the first one is cut off
				does(t, s, drop(0), api.OK)
			} else {
				does(t, s, deliver(0, 0), api.OK)
			}
		}
		is(s, l[1]) // both lead
		does(t, s, arm(l[1], 1), api.OK)
		is(s, l[1])
		does(t, s, ask(l[1], 1, 1, "1"), api.ErrCrash)
		is(s, l[0]) // the other one is down
		does(t, s, start(l[1]), api.OK)
		is(s, l[0]) // it is up, but it doesn't lead any more
		does(t, s, start(l[0]), api.OK)
		is(s, -1)
	}
	s := made(t, usual(1))
	stands(t, s, 0, 0)
	is(s, 0)
}

// The chapter's example: it is answered.
func TestExample(t *testing.T) {
	c := usual(3)
	s := made(t, c)
	does(t, s, calm(school.Settle(c)), api.OK)
	does(t, s, ask(s.Leader(), 1, 1, "1 + 1"), api.OK)
	does(t, s, calm(3), api.OK)
	replies(t, s, replica.Reply{Session: 1, Number: 1, Data: outcome("1 + 1")})
}
