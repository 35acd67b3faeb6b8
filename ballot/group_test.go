package ballot_test

import (
	"math/rand"
	"slices"
	"strconv"
	"testing"

	"battledore/api"
	"battledore/ballot"
)

// group is some nodes, what is on its way between them, and what each of them keeps when it crashes.
type group struct {
	t       *testing.T
	rnd     *rand.Rand
	l       []ballot.State
	bag     []ballot.Msg
	history []string          // of each index from 1 on that was committed anywhere, its entry
	leaders map[uint64]int    // of each term, who led in it
	votes   map[[2]uint64]int // of each term and node, whom it has voted for
	asked   uint64
	deaf    int // a node whose time stands still, and which nothing reaches
}

func grouped(t *testing.T, n, wait int, seed int64) *group {
	g := &group{t: t, rnd: rand.New(rand.NewSource(seed)), leaders: map[uint64]int{}, votes: map[[2]uint64]int{}, deaf: -1}
	for i := range n {
		g.l = append(g.l, made(t, n, i, wait))
	}
	return g
}

// sum: what a snapshot of so many entries says.
func (g *group) sum(n uint64) string {
	text := ""
	for _, s := range g.history[:n] {
		text += s + " "
	}
	return text
}

// becomes: a node is in its next state, and what it sends is on its way.
func (g *group) becomes(s ballot.State, out []ballot.Msg) {
	g.l[s.Self] = s
	g.bag = append(g.bag, out...)
	g.check(s)
	for _, m := range out {
		key := [2]uint64{m.Term, uint64(s.Self)}
		if m.From != s.Self || m.Term != s.Term {
			g.t.Fatalf("%s sends %s", told(s), toldMsg(m))
		}
		if m.Kind != ballot.VoteAsk && (m.Kind != ballot.VoteTell || !m.OK) {
			continue
		}
		who := m.To
		if m.Kind == ballot.VoteAsk {
			who = s.Self
		}
		if before, there := g.votes[key]; there && before != who {
			g.t.Fatalf("node %d votes for %d and %d in the term %d", s.Self, before, who, m.Term)
		}
		g.votes[key] = who
	}
}

// check asks that a node contradicts neither the history, nor another leader.
func (g *group) check(s ballot.State) {
	if s.Role == ballot.Leader {
		if who, there := g.leaders[s.Term]; there && who != s.Self {
			g.t.Fatalf("%d and %d lead in the term %d", who, s.Self, s.Term)
		}
		g.leaders[s.Term] = s.Self
	}
	if s.Commit > ballot.Last(s) || s.Commit < s.Base {
		g.t.Fatalf("Commit %d, the indices %d to %d", s.Commit, s.Base, ballot.Last(s))
	}
	for i := s.Base + 1; i <= s.Commit; i++ {
		text := toldEntry(s.Log[i-s.Base-1])
		if i > uint64(len(g.history)) {
			g.history = append(g.history, text)
		}
		if g.history[i-1] != text {
			g.t.Fatalf("index %d: %s and %s", i, g.history[i-1], text)
		}
	}
	if string(s.Data) != g.sum(s.Base) {
		g.t.Fatalf("the snapshot of %d is %q", s.Base, s.Data)
	}
}

func (g *group) tick(i, draw int) {
	g.becomes(ballot.Tick(g.l[i], draw))
}

func (g *group) receive(m ballot.Msg, draw int) {
	m, e := ballot.Decode(ballot.Encode(m))
	comes(g.t, "Decode", e, api.OK)
	s, out, e := ballot.Receive(g.l[m.To], m, draw)
	if e != api.OK && e != api.ErrStale {
		g.t.Fatalf("%s: %d", toldMsg(m), e)
	}
	g.becomes(s, out)
}

func (g *group) propose(i int) {
	if s, out, at, e := ballot.Propose(g.l[i], 1, g.asked+1, []byte(strconv.Itoa(i))); e == api.OK {
		g.asked++
		if at != ballot.Last(s) {
			g.t.Fatalf("its index is %d", at)
		}
		g.becomes(s, out)
	}
}

func (g *group) compact(i int) {
	s := g.l[i]
	if s.Commit == s.Base {
		return
	}
	to := s.Base + 1 + uint64(g.rnd.Intn(int(s.Commit-s.Base)))
	s, e := ballot.Compact(s, to, []byte(g.sum(to)))
	comes(g.t, "Compact", e, api.OK)
	g.becomes(s, nil)
}

// crash: a node begins anew with what it keeps.
func (g *group) crash(i int) {
	s, old := made(g.t, len(g.l), i, g.l[i].Wait), g.l[i]
	s.Term, s.Vote, s.Base, s.BaseTerm, s.Data, s.Log, s.Commit = old.Term, old.Vote, old.Base, old.BaseTerm, old.Data, old.Log, old.Base
	g.becomes(s, nil)
}

// mess: something happens; what is on its way comes in any order, more than once, or not at all.
func (g *group) mess() {
	i := g.rnd.Intn(len(g.l))
	switch k := g.rnd.Intn(100); {
	case k < 15:
		g.tick(i, g.rnd.Intn(9))
	case k < 20:
		g.propose(i)
	case k < 22:
		g.compact(i)
	case k < 23:
		g.crash(i)
	case len(g.bag) > 0:
		at := g.rnd.Intn(len(g.bag))
		m := g.bag[at]
		if k > 27 { // otherwise it stays on its way
			g.bag = slices.Delete(g.bag, at, at+1)
		}
		if k > 35 { // otherwise it is lost
			g.receive(m, g.rnd.Intn(9))
		}
	}
}

// calm: rounds in which all nodes tick, and all that is on its way comes.
func (g *group) calm(rounds int) {
	for range rounds {
		for i := range g.l {
			if i != g.deaf {
				g.tick(i, i)
			}
		}
		for n := 0; len(g.bag) > 0; n++ {
			m := g.bag[0]
			g.bag = g.bag[1:]
			if m.To != g.deaf {
				g.receive(m, m.To)
			}
			if n > 10000 {
				g.t.Fatal("what is sent has no end")
			}
		}
	}
}

// agrees asks that all follow one leader, and have the same; it returns that one.
func (g *group) agrees() int {
	lead := g.l[0].Lead
	for i, s := range g.l {
		if s.Lead != lead || lead < 0 || (s.Role == ballot.Leader) != (i == lead) || s.Term != g.l[0].Term {
			g.t.Fatalf("node %d of %d doesn't follow: %s", i, len(g.l), told(s))
		}
		if s.Commit != uint64(len(g.history)) || s.Commit != ballot.Last(s) {
			g.t.Fatalf("node %d of %d lacks some of %d: %s", i, len(g.l), len(g.history), told(s))
		}
	}
	return lead
}

// P4, P16.5: one history, whatever comes in whatever order, and whoever crashes; and when it is calm again, there is a leader, and what it takes is committed.
func TestOneHistory(t *testing.T) {
	terms, total := 0, 0
	for seed := range int64(240) {
		n := 1 + int(seed)%api.MaxNodes
		g := grouped(t, n, max(2, n), seed)
		for range 2 {
			for range 1500 {
				g.mess()
			}
			g.bag = nil
			g.calm(6*g.l[0].Wait + 40)
			lead := g.agrees()
			for range 3 {
				g.propose(lead)
			}
			before := len(g.history)
			g.calm(2)
			if n > 1 && len(g.history) != before+3 {
				t.Fatalf("%d entries more", len(g.history)-before)
			}
			g.agrees()
		}
		terms += len(g.leaders)
		total += len(g.history)
	}
	if terms < 1000 || total < 5000 {
		t.Errorf("only %d terms, and %d entries", terms, total)
	}
}

// P7, P16.4: nodes that know nothing find a leader.
func TestElection(t *testing.T) {
	for n := 1; n <= api.MaxNodes; n++ {
		for _, wait := range []int{max(2, n), 10, 30} {
			g := grouped(t, n, wait, 1)
			g.calm(6*wait + 40)
			g.agrees()
		}
	}
}

// P4, P16.2: one that nothing has reached for long gets what it lacks, in pieces, or as a snapshot.
func TestCatchUp(t *testing.T) {
	for _, snap := range []bool{false, true} {
		g := grouped(t, 3, 10, 1)
		g.calm(50)
		lead := g.agrees()
		g.deaf = (lead + 1) % 3
		for range 100 {
			g.propose(lead)
		}
		g.calm(20)
		if snap {
			to := g.l[lead].Commit - 2
			s, e := ballot.Compact(g.l[lead], to, []byte(g.sum(to)))
			comes(t, "Compact", e, api.OK)
			g.becomes(s, nil)
		}
		late := &g.l[g.deaf]
		if lacks := len(g.history) - int(ballot.Last(*late)); lacks != 100 {
			t.Fatalf("it lacks %d entries", lacks)
		}
		g.deaf = -1
		g.calm(15)
		if g.agrees() != lead || (late.Base > 0) != snap {
			t.Errorf("with a snapshot %t: %d leads, it has the base %d", snap, late.Lead, late.Base)
		}
	}
}
