package school_test

import (
	"math/rand"
	"strconv"
	"strings"
	"testing"

	"battledore/api"
	"battledore/replica"
	"battledore/school"
)

// mess: a step of a script; hidden: what is from or to this node is lost; often: of 1000 steps so many are crashes.
func (r chance) mess(w *witness, hidden, often int) school.Step {
	bag := w.s.Bag()
	if len(bag) > 0 && r.Intn(3) > 0 {
		i := r.Intn(len(bag))
		if r.Intn(3) > 0 {
			i = 0
		}
		switch k := r.Intn(100); {
		case bag[i].From == hidden || bag[i].To == hidden || k < 8:
			return drop(i)
		case k < 14:
			return double(i)
		}
		return deliver(i, r.Intn(9))
	}
	i := r.Intn(w.c.Nodes)
	if r.Intn(1000) < often {
		return []school.Step{arm(i, 1+r.Intn(20)), start(i, r.cuts()...)}[r.Intn(2)]
	}
	if lead := w.s.Leader(); r.Intn(4) == 0 {
		if lead >= 0 && r.Intn(4) > 0 {
			i = lead
		}
		x := ask(i, uint64(1+r.Intn(4)), uint64(1+len(w.history)/4+r.Intn(3)), "")
		x.Cell = r.cell()
		return x
	}
	if r.Intn(60) == 0 && hidden < 0 {
		return calm(r.Intn(5))
	}
	return tick(i, r.Intn(9))
}

// P20.2, P20.3, P4 to P7: after any script there is one history, and all replies go with it; when it is calm, there is a leader that answers.
func TestScripts(t *testing.T) {
	crashes, replies, entries, lead := 0, 0, 0, map[int]bool{}
	for seed := range int64(63) {
		r := chance{rand.New(rand.NewSource(seed))}
		n := 1 + int(seed)%api.MaxNodes
		c := replica.Config{Nodes: n, Wait: max(2, n) + r.Intn(2)*r.Intn(9), Every: 1 + r.Intn(12), Most: api.MaxTrack}
		w := witnessOf(t, c)
		for range 3 {
			hidden, often := r.Intn(2*n)-n, r.Intn(3)*60
			for k := range 350 {
				if k%70 == 0 {
					hidden = r.Intn(3*n) - 2*n
				}
				w.do(r.mess(w, hidden, often))
				if i := r.Intn(n); !w.s.Node(i).Up() && r.Intn(8) == 0 {
					w.do(start(i, r.cuts()...))
				}
			}
			w.settles(r.cuts)
			lead[w.s.Leader()] = true
		}
		crashes, replies, entries = crashes+w.crashes, replies+w.looked, entries+len(w.history)
	}
	if crashes < 200 || replies < 3000 || entries < 2000 || len(lead) < 3 {
		t.Errorf("only %d crashes, %d replies, %d entries, %v lead", crashes, replies, entries, lead)
	}
}

// P20.3: schools that nothing has happened to, of each size, with the least and the greatest Wait.
func TestSettles(t *testing.T) {
	for n := 1; n <= api.MaxNodes; n++ {
		for _, wait := range []int{max(2, n), n + 1, 20, 161, 1000} {
			w := witnessOf(t, replica.Config{Nodes: n, Wait: wait, Every: 1 + wait%7, Most: api.MaxTrack})
			w.settles(func() []int { return nil })
		}
	}
}

// goOn: what a node is asked for, many times, while nothing is from or to some nodes.
func (w *witness) goOn(lead, times int, text string, hidden ...int) {
	w.t.Helper()
	for range times {
		number := uint64(len(w.history)) + 2 + uint64(w.s.Node(lead).State().Commit)
		if e := w.do(ask(lead, 1, number, text)); e != api.OK {
			w.t.Fatalf("Ask of %d: %d", lead, e)
		}
		w.round(lead, hidden...)
	}
}

// round: a node ticks, and all that is under way comes, but for what is from or to some nodes.
func (w *witness) round(i int, hidden ...int) {
	w.t.Helper()
	defer w.look()
	w.s.Do(tick(i, i))
	for {
		bag := w.s.Bag()
		if len(bag) == 0 {
			return
		}
		x := deliver(0, bag[0].To)
		for _, h := range hidden {
			if bag[0].From == h || bag[0].To == h {
				x = drop(0)
			}
		}
		w.s.Do(x)
	}
}

// P20.3: nodes that lack 200 entries, with and without snapshots; the others go on without them.
func TestLacking(t *testing.T) {
	for _, every := range []int{1, 7, 60, 1000} {
		for _, n := range []int{2, 3, 5, 7} {
			c := replica.Config{Nodes: n, Wait: n, Every: every, Most: api.MaxTrack}
			w := witnessOf(t, c)
			w.do(calm(school.Settle(c)))
			lead := w.s.Leader()
			var hidden []int
			for i := range (n - 1) / 2 {
				hidden = append(hidden, (lead+1+i)%n)
			}
			w.goOn(lead, 199, "let x = 1", hidden...)
			if n > 2 && len(w.history) < 200 {
				t.Fatalf("only %d entries", len(w.history))
			}
			w.settles(func() []int { return nil })
		}
	}
}

// P20.3: a leader that was cut off has 190 entries that no one else has; the others have others in their place.
func TestReplaced(t *testing.T) {
	for _, every := range []int{1, 7, 1000} {
		for _, n := range []int{3, 5, 7} {
			c := replica.Config{Nodes: n, Wait: n, Every: every, Most: api.MaxTrack}
			w := witnessOf(t, c)
			w.do(calm(school.Settle(c)))
			old := w.s.Leader()
			for k := range 190 {
				w.do(ask(old, 9, uint64(k+1), "let old = 1"))
				w.lose()
			}
			for i := 0; w.s.Leader() == old; i++ {
				if i %= n; i != old {
					w.round(i, old)
				}
			}
			lead := w.s.Leader()
			w.goOn(lead, 190, "let new = 1", old)
			if x := w.s.Node(old).State(); len(w.history) < 190 || len(x.Log) < 190 {
				t.Fatalf("%d entries, and %d", len(w.history), len(x.Log))
			}
			w.settles(func() []int { return []int{1, 1, 1, 1} })
			if w.latest[9] != 0 {
				t.Error("what was replaced is there")
			}
		}
	}
}

// P20.3: a node lacks a book, or entries, that are a quarter of a track.
func TestGreatBooks(t *testing.T) {
	text := "\"" + strings.Repeat("0123456789", 195) + "\""
	for _, every := range []int{1, 1000} {
		c := replica.Config{Nodes: 3, Wait: 3, Every: every, Most: api.MaxTrack}
		w := witnessOf(t, c)
		w.do(calm(school.Settle(c)))
		lead := w.s.Leader()
		for k := range 22 {
			w.goOn(lead, 1, "let s"+strconv.Itoa(k)+" = "+text, (lead+1)%3)
		}
		w.goOn(lead, 1, "s0 = s21", (lead+1)%3)
		if n := len(w.s.Node((lead + 1) % 3).Book().Save()); n > 1000 {
			t.Errorf("the book of the node that lacks it has %d bytes", n)
		}
		if n := len(w.s.Node(lead).Book().Save()); n < 40000 {
			t.Errorf("the book has %d bytes", n)
		}
		w.settles(func() []int { return nil })
	}
}

// P20.2, P5: whoever is asked for the same number again, and however often, answers the same; also behind a crash, and from a snapshot.
func TestAlwaysTheSame(t *testing.T) {
	for _, every := range []int{1, 3, 1000} {
		c := replica.Config{Nodes: 3, Wait: 3, Every: every, Most: api.MaxTrack}
		w := witnessOf(t, c)
		w.settles(func() []int { return nil })
		w.do(ask(w.s.Leader(), 5, 1, "let r = ref 0"))
		w.do(ask(w.s.Leader(), 6, 1, "r := !r + 1; !r"))
		w.do(calm(2))
		want := outcome("let r = ref 0", "r := !r + 1; !r")
		for range 3 {
			for i := range 3 {
				from := len(w.s.Replies())
				w.do(ask(i, 6, 1, "r := !r + 1; !r"))
				w.do(ask(i, 6, 1, "1"))
				l := w.s.Replies()
				if len(l) != from+2 || told(l[from:]) != told([]replica.Reply{{Session: 6, Number: 1, Data: want}, {Session: 6, Number: 1, Data: want}}) {
					t.Fatalf("the node %d answers %+v", i, l[from:])
				}
			}
			w.settles(func() []int { return []int{3, 3, 3, 3} })
		}
	}
}

// P20.2: one session too many is told so, and nothing is executed for it.
func TestSessions(t *testing.T) {
	c := replica.Config{Nodes: 3, Wait: 3, Every: 5, Most: api.MaxTrack}
	w := witnessOf(t, c)
	w.do(calm(school.Settle(c)))
	for k := range 70 {
		w.do(ask(w.s.Leader(), 100-uint64(k), 1, "let x = 1"))
		if k%10 == 9 {
			w.do(calm(3))
		}
	}
	long := 0
	for _, x := range w.s.Replies() {
		if x.E == api.ErrLong {
			long++
		}
	}
	if len(w.s.Replies()) != 70 || long != 6 {
		t.Errorf("%d replies, %d of them ErrLong", len(w.s.Replies()), long)
	}
	w.settles(func() []int { return nil })
}
