package replica_test

import (
	"math"
	"testing"

	"battledore/api"
	"battledore/ballot"
	"battledore/notebook"
	"battledore/replica"
)

// P19.1: the limits of a configuration.
func TestForm(t *testing.T) {
	whole := func(n, most int) map[int]bool {
		return map[int]bool{math.MinInt: false, -1: false, 0: false, 1: true, 2: true, most / 2: true, most: true, most + 1: false, math.MaxInt: false, n: true}
	}
	for n, want := range whole(3, api.MaxNodes) {
		forms(t, replica.Config{Nodes: n, Wait: 5, Every: 5, Most: 5}, want)
	}
	for n, want := range whole(3, 1000) {
		forms(t, replica.Config{Nodes: 3, Wait: n, Every: 5, Most: 5}, want && n > 1)
		forms(t, replica.Config{Nodes: 3, Wait: 5, Every: n, Most: 5}, want)
	}
	for n, want := range whole(3, api.MaxTrack) {
		forms(t, replica.Config{Nodes: 3, Wait: 5, Every: 5, Most: n}, want)
	}
	forms(t, replica.Config{}, false)
	forms(t, replica.Config{Nodes: 7, Wait: 1000, Every: 1000, Most: 1 << 20}, true)
	forms(t, replica.Config{Nodes: 1, Wait: 2, Every: 1, Most: 1}, true)
}

func forms(t *testing.T, c replica.Config, want bool) {
	t.Helper()
	if replica.Form(c) != want {
		t.Errorf("Form(%v) isn't %t", c, want)
	}
	if r, e := replica.New(c, 0); (r != nil) != want || want && e != api.OK || !want && e != api.ErrArg {
		t.Errorf("New(%v, 0): %d", c, e)
	}
}

// P19.1: a node is one of the nodes.
func TestSelf(t *testing.T) {
	for n := 1; n <= api.MaxNodes; n++ {
		for self := range n {
			r := made(t, usual(n), self)
			s, _ := ballot.New(n, self, 5)
			is(t, "a new one", r, s)
		}
		for _, self := range []int{-1, n, n + 1, api.MaxNodes, math.MinInt, math.MaxInt} {
			if r, e := replica.New(usual(n), self); r != nil || e != api.ErrArg {
				t.Errorf("New of %d, %d: %d", n, self, e)
			}
		}
	}
}

// P19.1, P19.4: a new node is up, and has a new drum, a new book, and nothing to send, or to answer.
func TestNew(t *testing.T) {
	for _, most := range []int{1, 5, 1000, api.MaxTrack} {
		c := usual(3)
		c.Most = most
		r := made(t, c, 1)
		s, _ := ballot.New(3, 1, 5)
		is(t, "a new one", r, s)
		has(t, "a new one", r, notebook.New().Save())
		sends(t, "a new one", r)
		replies(t, "a new one", r)
		if d := r.Disk(); d.Tracks() != replica.Tracks || d.Tracks() != 4 || d.Most() != most || !d.On() || !r.Up() {
			t.Errorf("a drum with %d tracks of %d bytes, up %t", d.Tracks(), d.Most(), r.Up())
		}
		for i := range 4 {
			if p, e := r.Disk().Read(i); len(p) > 0 || e != api.OK {
				t.Errorf("track %d has %x, %d", i, p, e)
			}
		}
	}
}

// P19.4: two nodes share nothing, neither their drums nor their books.
func TestTwoNodes(t *testing.T) {
	a, b := leading(t, usual(1)), made(t, usual(1), 0)
	if a.Disk() == b.Disk() || a.Book() == b.Book() || a.Disk() != a.Disk() || a.Book() != a.Book() {
		t.Error("whose drum is it?")
	}
	s, _ := ballot.New(1, 0, 5)
	is(t, "the other one", b, s)
	has(t, "the other one", b, bookOf(0))
}

// P19.4: a node that isn't there.
func TestNil(t *testing.T) {
	var r *replica.Replica
	comes(t, "Tick", r.Tick(0), api.ErrNone)
	comes(t, "In", r.In(nil, 0), api.ErrNone)
	comes(t, "In", r.In(ballot.Encode(ballot.Msg{}), 0), api.ErrNone)
	comes(t, "Ask", r.Ask(1, 1, nil), api.ErrNone)
	comes(t, "Ask", r.Ask(0, 0, nil), api.ErrNone)
	comes(t, "Start", r.Start(nil), api.ErrNone)
	if r.Up() || r.Book() != nil || r.Applied() != nil || r.Disk() != nil || r.Out() != nil || r.Replies() != nil {
		t.Error("it has something")
	}
	if told(r.State()) != told(ballot.State{}) {
		t.Errorf("its state: %s", told(r.State()))
	}
}

// Chapter 19's example.
func TestExample(t *testing.T) {
	r := made(t, replica.Config{Nodes: 1, Wait: 8, Every: 8, Most: api.MaxTrack}, 0)
	for r.State().Role != ballot.Leader {
		comes(t, "Tick", r.Tick(0), api.OK)
	}
	comes(t, "Ask", r.Ask(1, 1, []byte("1 + 1")), api.OK)
	l := r.Replies()
	if len(l) != 1 || l[0].Session != 1 || l[0].Number != 1 || l[0].E != api.OK {
		t.Fatalf("answered %s", list(l, toldReply))
	}
	o, e := notebook.Read(l[0].Data)
	if e != api.OK || len(o.Binds) != 1 || o.Binds[0] != (api.Binding{Name: "-", Type: "int", Value: "2"}) {
		t.Errorf("%v, %d", o, e)
	}
}
