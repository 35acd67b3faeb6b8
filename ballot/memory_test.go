package ballot_test

import (
	"slices"
	"testing"

	"battledore/ballot"
)

// deed is a call: the next state, and what is sent.
type deed struct {
	name string
	do   func(s ballot.State, m ballot.Msg) (ballot.State, []ballot.Msg)
}

func deeds() []deed {
	return []deed{
		{"Copy", func(s ballot.State, m ballot.Msg) (ballot.State, []ballot.Msg) { return ballot.Copy(s), nil }},
		{"Tick", func(s ballot.State, m ballot.Msg) (ballot.State, []ballot.Msg) { return ballot.Tick(s, 3) }},
		{"a tick that counts", func(s ballot.State, m ballot.Msg) (ballot.State, []ballot.Msg) {
			s.Left = 1
			return ballot.Tick(s, 3)
		}},
		{"Propose", func(s ballot.State, m ballot.Msg) (ballot.State, []ballot.Msg) {
			x, out, _, _ := ballot.Propose(s, 1, 2, m.Data)
			return x, out
		}},
		{"Receive", func(s ballot.State, m ballot.Msg) (ballot.State, []ballot.Msg) {
			x, out, _ := ballot.Receive(s, m, 3)
			return x, out
		}},
		{"Compact", func(s ballot.State, m ballot.Msg) (ballot.State, []ballot.Msg) {
			x, _ := ballot.Compact(s, s.Commit, m.Data)
			return x, nil
		}},
	}
}

// received: messages to a node of the other ones, by which all sorts of things happen.
func received(s ballot.State) []ballot.Msg {
	from := (s.Self + 1) % s.N
	var l []ballot.Msg
	for kind := byte(0); kind <= ballot.SnapAsk; kind++ {
		for term := range uint64(3) {
			for _, index := range []uint64{0, s.Base, ballot.Last(s), ballot.Last(s) + 1} {
				for _, ok := range []bool{false, true} {
					m := ballot.Msg{Kind: kind, From: from, To: s.Self, Term: s.Term + term - 1, Index: index, OK: ok, Commit: index + 1}
					m.LogTerm, _ = ballot.TermAt(s, index)
					m.Data, m.Entries = roomy([]byte("data")), roomyEntries(entries(s.Term, s.Term))
					l = append(l, m)
				}
			}
		}
	}
	return l
}

// The rule about memory: what is passed stays as it is, with its spare capacity, and what is returned shares nothing with it, nor with anything else.
func TestMemory(t *testing.T) {
	for _, kind := range some(t) {
		for _, m := range received(kind) {
			for _, d := range deeds() {
				s, m := roomyState(kind), m
				m.Data, m.Entries = roomy(m.Data), roomyEntries(m.Entries)
				before := toldAll(s, m)
				x, out := d.do(s, m)
				y, again := d.do(s, m)
				next := toldBoth(x, out)
				if toldAll(s, m) != before || toldBoth(y, again) != next {
					t.Fatalf("%s: %s became %s", d.name, before, toldAll(s, m))
				}
				spoilState(y)
				spoilMsgs(again)
				if toldBoth(x, out) != next || toldAll(s, m) != before {
					t.Fatalf("%s: two results share memory", d.name)
				}
				for i := range out {
					apart(t, d, s, m, i)
				}
				spoilState(s)
				spoilMsgs([]ballot.Msg{m})
				if toldBoth(x, out) != next {
					t.Fatalf("%s: the result is kept in what was passed", d.name)
				}
			}
		}
	}
}

// apart asks that a message that is sent shares no memory with the state and the other ones.
func apart(t *testing.T, d deed, s ballot.State, m ballot.Msg, i int) {
	t.Helper()
	x, out := d.do(s, m)
	rest := append(out[:i:i], out[i+1:]...)
	before := toldBoth(x, rest)
	spoilMsgs(out[i : i+1 : i+1])
	if toldBoth(x, rest) != before {
		t.Fatalf("%s: message %d shares memory", d.name, i)
	}
}

func toldBoth(s ballot.State, out []ballot.Msg) string {
	return told(s) + list(out, toldMsg)
}

// toldAll: a state and a message as a text, with all spare capacity.
func toldAll(s ballot.State, m ballot.Msg) string {
	s.Data, s.Log = s.Data[:cap(s.Data)], s.Log[:cap(s.Log)]
	s.Votes, s.Next, s.Match = s.Votes[:cap(s.Votes)], s.Next[:cap(s.Next)], s.Match[:cap(s.Match)]
	m.Data, m.Entries = m.Data[:cap(m.Data)], m.Entries[:cap(m.Entries)]
	text := told(s) + toldMsg(m)
	for _, x := range slices.Concat(s.Log, m.Entries) {
		text += string(x.Cell[:cap(x.Cell)])
	}
	return text
}
