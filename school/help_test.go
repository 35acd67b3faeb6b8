package school_test

import (
	"fmt"
	"testing"

	"battledore/api"
	"battledore/ballot"
	"battledore/notebook"
	"battledore/replica"
	"battledore/school"
)

// usual: a configuration in which snapshots are rare.
func usual(nodes int) replica.Config {
	return replica.Config{Nodes: nodes, Wait: max(nodes, 3), Every: 1000, Most: api.MaxTrack}
}

// made: a new school that there must be.
func made(t *testing.T, c replica.Config) *school.School {
	t.Helper()
	s, e := school.New(c)
	if s == nil || e != api.OK {
		t.Fatalf("New(%v): %d", c, e)
	}
	return s
}

// does asks that a step returns that error.
func does(t *testing.T, s *school.School, x school.Step, want api.Errno) {
	t.Helper()
	if e := s.Do(x); e != want {
		t.Errorf("%s: %d, want %d", told(x), e, want)
	}
}

func tick(i, draw int) school.Step {
	return school.Step{Kind: school.Tick, I: i, N: draw}
}

func deliver(i, draw int) school.Step {
	return school.Step{Kind: school.Deliver, I: i, N: draw}
}

func drop(i int) school.Step {
	return school.Step{Kind: school.Drop, I: i}
}

func double(i int) school.Step {
	return school.Step{Kind: school.Double, I: i}
}

func ask(i int, session, number uint64, cell string) school.Step {
	return school.Step{Kind: school.Ask, I: i, Session: session, Number: number, Cell: []byte(cell)}
}

func arm(i, n int) school.Step {
	return school.Step{Kind: school.Arm, I: i, N: n}
}

func start(i int, cuts ...int) school.Step {
	return school.Step{Kind: school.Start, I: i, Cuts: cuts}
}

func calm(n int) school.Step {
	return school.Step{Kind: school.Calm, N: n}
}

// told: anything as a text.
func told(x any) string {
	return fmt.Sprintf("%+v", x)
}

// states: the states of all nodes, and which of them are up, as a text.
func states(s *school.School) string {
	var l []any
	for i := 0; s.Node(i) != nil; i++ {
		l = append(l, s.Node(i).State(), s.Node(i).Up())
	}
	return told(l)
}

// whole: all that a school has, as a text.
func whole(s *school.School) string {
	return states(s) + told(s.Bag()) + told(s.Replies()) + told(s.Leader())
}

// way: a packet, by from whom to whom it is, and what kind of message.
type way struct {
	from, to int
	kind     byte
}

// ways asks that these packets are under way, in this order.
func ways(t *testing.T, s *school.School, want ...way) {
	t.Helper()
	var l []way
	for _, p := range s.Bag() {
		m, e := ballot.Decode(p.Bytes)
		if e != api.OK || m.From != p.From || m.To != p.To {
			t.Errorf("from %d to %d there is %+v: %d", p.From, p.To, m, e)
		}
		l = append(l, way{p.From, p.To, m.Kind})
	}
	if told(l) != told(want) {
		t.Errorf("under way is %v, want %v", l, want)
	}
}

// left asks for the ticks that a node still waits.
func left(t *testing.T, s *school.School, i, want int) {
	t.Helper()
	if n := s.Node(i).State().Left; n != want {
		t.Errorf("the node %d waits %d, want %d", i, n, want)
	}
}

// replies asks that these are all the replies.
func replies(t *testing.T, s *school.School, want ...replica.Reply) {
	t.Helper()
	if l := s.Replies(); told(l) != told(want) {
		t.Errorf("the replies are %+v, want %+v", l, want)
	}
}

// outcome: what cells come to, one after the other; that of the last one.
func outcome(cells ...string) []byte {
	b := notebook.New()
	var p []byte
	for i, s := range cells {
		p, _ = b.Apply(api.Entry{Session: 1, Number: uint64(i + 1), Cell: []byte(s)})
	}
	return p
}

// stands: the node i ticks until it asks for votes.
func stands(t *testing.T, s *school.School, i, draw int) {
	t.Helper()
	for range s.Node(i).State().Left {
		does(t, s, tick(i, draw), api.OK)
	}
	if x := s.Node(i).State(); x.Vote != i || x.Left != x.Wait+draw {
		t.Fatalf("the node %d is %+v", i, x)
	}
}

// leads: the node i asks for votes, gets them, and leads; nothing else is under way, ahead of it and behind it.
func leads(t *testing.T, s *school.School, i int) {
	t.Helper()
	empty(t, s)
	stands(t, s, i, 0)
	n := s.Node(i).State().N
	for range 2 * (n - 1) {
		does(t, s, deliver(0, 0), api.OK)
	}
	if s.Node(i).State().Role != ballot.Leader {
		t.Fatalf("the node %d doesn't lead: %s", i, states(s))
	}
	empty(t, s)
}

// empty: all that is under way is lost.
func empty(t *testing.T, s *school.School) {
	t.Helper()
	for range s.Bag() {
		does(t, s, drop(0), api.OK)
	}
	ways(t, s)
}

// calms: so many calm rounds, also more than one step may have.
func calms(t *testing.T, s *school.School, n int) {
	t.Helper()
	for ; n > 1000; n -= 1000 {
		does(t, s, calm(1000), api.OK)
	}
	does(t, s, calm(n), api.OK)
}
