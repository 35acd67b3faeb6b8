package replica_test

import (
	"bytes"
	"math/rand"
	"slices"
	"strconv"
	"testing"

	"battledore/api"
	"battledore/ballot"
	"battledore/cell"
	"battledore/image"
	"battledore/notebook"
	"battledore/replica"
)

// group is some nodes, what is on its way between them, and what each of them has promised.
type group struct {
	t       *testing.T
	rnd     *rand.Rand
	l       []*replica.Replica
	bag     []replica.Packet
	promise []promise
	history []api.Entry          // of each index from 1 on that was applied anywhere, its entry
	world   image.World          // of the cells of the history
	first   map[[2]uint64][]byte // of each session and number, what the first entry comes to
	latest  map[uint64]uint64    // of each session its last number
	asked   map[string]bool
	crashes int
	answers int
}

// promise is what a node has told others.
type promise struct {
	term uint64         // the greatest one
	vote map[uint64]int // of each term
	from uint64         // the term of the leader to whom it has confirmed
	logs []api.Entry    // these entries
	base uint64         // behind this index
}

func grouped(t *testing.T, c replica.Config, seed int64) *group {
	t.Helper()
	g := &group{t: t, rnd: rand.New(rand.NewSource(seed)), first: map[[2]uint64][]byte{}, latest: map[uint64]uint64{}, asked: map[string]bool{}}
	g.world, _ = image.New(notebook.Quota)
	for i := range c.Nodes {
		g.l = append(g.l, made(t, c, i))
		g.promise = append(g.promise, promise{vote: map[uint64]int{}})
	}
	return g
}

// did: what a node sends is on its way, what it has applied and answered is looked at. If it is down, it is started.
func (g *group) did(i int) {
	r := g.l[i]
	for _, p := range r.Out() {
		m, e := ballot.Decode(p.Bytes)
		if e != api.OK || p.From != i || m.From != i || p.To != m.To {
			g.t.Fatalf("node %d sends %s", i, toldPacket(p))
		}
		g.promises(i, m)
		g.bag = append(g.bag, p)
	}
	g.applied(r)
	for _, x := range r.Replies() {
		g.answered(x)
	}
	if !r.Up() {
		g.start(i)
	}
}

// promises: a node sends a message.
func (g *group) promises(i int, m ballot.Msg) {
	p := &g.promise[i]
	p.term = max(p.term, m.Term)
	vote := -1
	if m.Kind == ballot.VoteAsk {
		vote = i
	}
	if m.Kind == ballot.VoteTell && m.OK {
		vote = m.To
	}
	if before, there := p.vote[m.Term]; vote >= 0 && there && before != vote {
		g.t.Fatalf("node %d votes for %d and %d in the term %d", i, before, vote, m.Term)
	}
	if vote >= 0 {
		p.vote[m.Term] = vote
	}
	if m.Kind == ballot.LogTell && m.OK {
		s := g.l[i].State()
		if m.Index > s.Base {
			p.from, p.base, p.logs = m.Term, s.Base, slices.Clone(s.Log[:m.Index-s.Base])
		}
	}
}

// start: a node is started, and must not contradict what it has sent.
func (g *group) start(i int) {
	g.crashes++
	r, p := g.l[i], g.promise[i]
	var cuts []int
	for range g.rnd.Intn(6) {
		cuts = append(cuts, g.rnd.Intn(400)-1)
	}
	comes(g.t, "Start", r.Start(cuts), api.OK)
	s := r.State()
	if vote, there := p.vote[s.Term]; s.Term < p.term || there && s.Vote != vote {
		g.t.Fatalf("node %d has promised the term %d, the vote %d: %s", i, p.term, vote, told(s))
	}
	for k, x := range p.logs {
		at := p.base + 1 + uint64(k)
		if at <= s.Base {
			continue
		}
		if at > ballot.Last(s) || toldEntry(s.Log[at-s.Base-1]) != toldEntry(x) {
			g.t.Fatalf("node %d has confirmed %s at %d: %s", i, toldEntry(x), at, told(s))
		}
	}
}

// applied: a node contradicts no other one in what it has applied.
func (g *group) applied(r *replica.Replica) {
	l, n := r.Applied(), r.Book().Len()
	for k, x := range l {
		at := n - uint64(len(l)) + uint64(k)
		if at == uint64(len(g.history)) {
			g.more(x)
		}
		if at > uint64(len(g.history)) || toldEntry(g.history[at]) != toldEntry(x) {
			g.t.Fatalf("at %d there is %s, too", at+1, toldEntry(x))
		}
	}
}

// more: the history has one more entry; what it comes to is computed without a book.
func (g *group) more(x api.Entry) {
	g.history = append(g.history, x)
	if x.Session == 0 {
		return
	}
	if !g.asked[toldEntry(api.Entry{Session: x.Session, Number: x.Number, Cell: x.Cell})] {
		g.t.Fatalf("nobody has asked for %s", toldEntry(x))
	}
	if x.Number <= g.latest[x.Session] {
		return
	}
	g.latest[x.Session] = x.Number
	w, o := cell.Run(g.world, string(x.Cell), notebook.Fuel)
	g.world = w
	g.first[[2]uint64{x.Session, x.Number}] = notebook.Reply(o)
}

func (g *group) answered(x replica.Reply) {
	want, there := g.first[[2]uint64{x.Session, x.Number}]
	g.answers++
	switch {
	case x.E == api.OK && there && bytes.Equal(x.Data, want):
	case x.E == api.ErrLeader && len(x.Data) == 0:
	case x.E == api.ErrStale && len(x.Data) == 0 && x.Number < g.latest[x.Session]:
	default:
		g.t.Fatalf("%s, want %q", toldReply(x), want)
	}
}

func (g *group) tick(i, draw int) {
	g.l[i].Tick(draw)
	g.did(i)
}

func (g *group) receive(p replica.Packet, draw int) {
	m, _ := ballot.Decode(p.Bytes)
	if (m.Kind == ballot.LogAsk || m.Kind == ballot.SnapAsk) && m.Term > g.promise[p.To].from {
		g.promise[p.To].logs = nil
	}
	e := g.l[p.To].In(p.Bytes, draw)
	if e != api.OK && e != api.ErrStale && e != api.ErrCrash {
		g.t.Fatalf("%s: %d", toldPacket(p), e)
	}
	g.did(p.To)
}

func (g *group) ask(i int, session, number uint64, text string) {
	g.asked[toldEntry(api.Entry{Session: session, Number: number, Cell: []byte(text)})] = true
	e := g.l[i].Ask(session, number, []byte(text))
	if e != api.OK && e != api.ErrLeader && e != api.ErrCrash {
		g.t.Fatalf("Ask: %d", e)
	}
	g.did(i)
}

// mess: something happens; what is on its way comes in any order, more than once, or not at all; the power of a node fails.
func (g *group) mess() {
	i := g.rnd.Intn(len(g.l))
	switch k := g.rnd.Intn(100); {
	case k < 15:
		g.tick(i, g.rnd.Intn(9))
	case k < 25:
		text := []string{"let x = 1", "let x = x + 1", "x", "let f = fun y -> x + y", "f 2"}[g.rnd.Intn(5)]
		g.ask(i, uint64(1+g.rnd.Intn(3)), uint64(1+len(g.history)/4+g.rnd.Intn(3)), text)
	case k < 28:
		comes(g.t, "Arm", g.l[i].Disk().Arm(1+g.rnd.Intn(20)), api.OK)
	case k < 29:
		g.start(i)
	case len(g.bag) > 0:
		at := g.rnd.Intn(len(g.bag))
		p := g.bag[at]
		if k > 35 { // otherwise it stays on its way
			g.bag = slices.Delete(g.bag, at, at+1)
		}
		if k > 40 { // otherwise it is lost
			g.receive(p, g.rnd.Intn(9))
		}
	}
}

// calm: rounds in which all nodes tick, and all that is on its way comes.
func (g *group) calm(rounds int) {
	for range rounds {
		for i := range g.l {
			g.tick(i, i)
		}
		for n := 0; len(g.bag) > 0; n++ {
			p := g.bag[0]
			g.bag = g.bag[1:]
			g.receive(p, p.To)
			if n > 10000 {
				g.t.Fatal("what is sent has no end")
			}
		}
	}
}

// agrees asks that all follow one leader, and have the same book; it returns that one.
func (g *group) agrees() int {
	s := g.l[0].State()
	for i, r := range g.l {
		x := r.State()
		if x.Lead != s.Lead || s.Lead < 0 || x.Commit != s.Commit || x.Term != s.Term || !bytes.Equal(r.Book().Save(), g.l[0].Book().Save()) {
			g.t.Fatalf("node %d: %s, node 0: %s", i, told(x), told(s))
		}
	}
	return s.Lead
}

// P4 to P7, P19.5: whatever is lost, and whoever crashes: one history, no promise is broken, each reply is the outcome at the first entry; and when it is calm again, there is a leader that answers.
func TestGroup(t *testing.T) {
	crashes, answers, entries := 0, 0, 0
	for seed := range int64(70) {
		n := 1 + int(seed)%api.MaxNodes
		g := grouped(t, replica.Config{Nodes: n, Wait: max(2, n), Every: 1 + int(seed)%9, Most: api.MaxTrack}, seed)
		for range 2 {
			for range 800 {
				g.mess()
			}
			g.bag = nil
			for i := range g.l {
				g.start(i)
			}
			g.calm(6*max(2, n) + 40)
			lead := g.agrees()
			before := g.answers
			last := uint64(len(g.history)) + 9
			g.ask(lead, 4, last, "x + "+strconv.Itoa(int(last)))
			g.calm(3)
			if g.agrees(); g.answers != before+1 || g.latest[4] != last {
				t.Fatalf("of %d nodes: it isn't answered", n)
			}
		}
		crashes, answers, entries = crashes+g.crashes, answers+g.answers, entries+len(g.history)
	}
	if crashes < 1000 || answers < 1000 || entries < 2000 {
		t.Errorf("only %d crashes, %d answers, %d entries", crashes, answers, entries)
	}
}
