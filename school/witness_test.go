package school_test

import (
	"bytes"
	"maps"
	"slices"
	"testing"

	"battledore/api"
	"battledore/cell"
	"battledore/image"
	"battledore/notebook"
	"battledore/replica"
	"battledore/school"
	"battledore/session"
)

// mark is a number of a session.
type mark struct{ session, number uint64 }

// witness does steps, and looks at what comes of them: one history, and replies that go with it.
type witness struct {
	t       *testing.T
	c       replica.Config
	s       *school.School
	history []api.Entry       // of each index from 1 on that was applied anywhere, its entry
	world   image.World       // of the cells of the history
	first   map[mark][]byte   // what the first entry of a number comes to
	latest  map[uint64]uint64 // of each session its last number
	asked   map[string]bool
	looked  int // how many replies were looked at
	crashes int
}

func witnessOf(t *testing.T, c replica.Config) *witness {
	t.Helper()
	w := &witness{t: t, c: c, s: made(t, c), first: map[mark][]byte{}, latest: map[uint64]uint64{}, asked: map[string]bool{}}
	w.world, _ = image.New(notebook.Quota)
	return w
}

func askedOf(session, number uint64, text []byte) string {
	return told([]any{session, number, string(text)})
}

// do: a step, and what comes of it.
func (w *witness) do(x school.Step) api.Errno {
	w.t.Helper()
	if x.Kind == school.Ask {
		w.asked[askedOf(x.Session, x.Number, x.Cell)] = true
	}
	up := w.ups()
	e := w.s.Do(x)
	if w.ups() < up {
		w.crashes++
	}
	w.look()
	return e
}

// look: what the nodes have applied and answered by now goes together.
func (w *witness) look() {
	w.t.Helper()
	for _, i := range w.order() {
		w.applied(i)
	}
	l := w.s.Replies()
	for _, x := range l[w.looked:] {
		w.answered(x)
	}
	w.looked = len(l)
}

func (w *witness) ups() int {
	n := 0
	for i := range w.c.Nodes {
		if w.s.Node(i).Up() {
			n++
		}
	}
	return n
}

// order: the nodes, from the one on whose applied entries begin first. The others may have got a snapshot of those ahead of theirs.
func (w *witness) order() []int {
	var l []int
	for i := range w.c.Nodes {
		l = append(l, i)
	}
	slices.SortStableFunc(l, func(a, b int) int {
		return w.begins(a) - w.begins(b)
	})
	return l
}

func (w *witness) begins(i int) int {
	return int(w.s.Node(i).Book().Len()) - len(w.s.Node(i).Applied())
}

// applied: a node contradicts no other one in what it has applied.
func (w *witness) applied(i int) {
	l, n := w.s.Node(i).Applied(), w.s.Node(i).Book().Len()
	for k, x := range l {
		at := int(n) - len(l) + k
		if at == len(w.history) {
			w.more(x)
		}
		if at > len(w.history) {
			w.t.Fatalf("the node %d is ahead of all others at %d", i, at)
		}
		if y := w.history[at]; x.Term != y.Term || x.Session != y.Session || x.Number != y.Number || !bytes.Equal(x.Cell, y.Cell) {
			w.t.Fatalf("at %d there are %+v and %+v", at+1, x, y)
		}
	}
}

// more: the history has one more entry; what it comes to is computed without a book.
func (w *witness) more(x api.Entry) {
	w.history = append(w.history, x)
	if x.Session == 0 {
		return
	}
	if !w.asked[askedOf(x.Session, x.Number, x.Cell)] {
		w.t.Fatalf("nobody has asked for %+v", x)
	}
	last, there := w.latest[x.Session]
	if x.Number <= last || !there && len(w.latest) == session.Most {
		return
	}
	w.latest[x.Session] = x.Number
	world, o := cell.Run(w.world, string(x.Cell), notebook.Fuel)
	w.world = world
	w.first[mark{x.Session, x.Number}] = notebook.Reply(o)
}

// answered: what is answered OK is the outcome at the first entry; with an error there is none.
func (w *witness) answered(x replica.Reply) {
	want, there := w.first[mark{x.Session, x.Number}]
	last, known := w.latest[x.Session]
	switch {
	case x.E == api.OK && there && bytes.Equal(x.Data, want):
	case x.E == api.ErrLeader && len(x.Data) == 0:
	case x.E == api.ErrStale && len(x.Data) == 0 && x.Number < last:
	case x.E == api.ErrLong && len(x.Data) == 0 && !known && len(w.latest) == session.Most:
	default:
		w.t.Fatalf("it is answered %+v, want %q", x, want)
	}
}

// lose: nothing is under way any more.
func (w *witness) lose() {
	for range len(w.s.Bag()) {
		w.s.Do(drop(0))
	}
}

// settles: no drum is armed, all nodes are started, nothing is under way; after Settle rounds all follow a leader, and have the same, and one more number is answered within 3 rounds.
func (w *witness) settles(cuts func() []int) {
	w.t.Helper()
	w.lose()
	for i := range w.c.Nodes {
		if e := w.do(start(i, cuts()...)); e != api.OK {
			w.t.Fatalf("the node %d: %d", i, e)
		}
	}
	before := w.looked
	for n := school.Settle(w.c); n > 0; n -= 1000 {
		w.do(calm(min(n, 1000)))
	}
	lead := w.agree()
	number := uint64(len(w.history)) + 1000
	w.do(school.Step{Kind: school.Ask, I: lead, Session: w.known(), Number: number, Cell: []byte("1 + 2")})
	w.do(calm(3))
	w.agree()
	if l := w.s.Replies(); w.looked != before+1 || l[before].E != api.OK || l[before].Number != number {
		w.t.Fatalf("%d replies to one more number", w.looked-before)
	}
}

// known: a session for which there is room.
func (w *witness) known() uint64 {
	if _, there := w.latest[99]; there || len(w.latest) < session.Most {
		return 99
	}
	return slices.Min(slices.Collect(maps.Keys(w.latest)))
}

// agree asks that all nodes follow one leader, with the same Commit and the same book.
func (w *witness) agree() int {
	w.t.Helper()
	lead := w.s.Leader()
	if lead < 0 {
		w.t.Fatalf("nobody leads: %s", states(w.s))
	}
	book, commit := w.s.Node(lead).Book().Save(), w.s.Node(lead).State().Commit
	for i := range w.c.Nodes {
		x := w.s.Node(i).State()
		if !w.s.Node(i).Up() || x.Lead != lead || x.Commit != commit || !bytes.Equal(w.s.Node(i).Book().Save(), book) {
			w.t.Fatalf("%d leads, of %+v; the node %d differs: %s", lead, w.c, i, states(w.s))
		}
	}
	if commit != uint64(len(w.history)) {
		w.t.Fatalf("%d of %d entries", commit, len(w.history))
	}
	return lead
}
