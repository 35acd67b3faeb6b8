package notebook_test

import (
	"bytes"
	"math"
	"math/rand"
	"strings"
	"testing"

	"battledore/api"
	"battledore/notebook"
	"battledore/octet"
)

// P18.2: Reply lays what the chapter says, in its order.
func TestReply(t *testing.T) {
	for _, c := range []struct {
		o    api.Outcome
		want string
	}{
		{api.Outcome{}, "\x00\x00\x00\x00\x00\x00"},
		{api.Outcome{E: api.ErrText, At: 150}, "\x01\x08" + "\x02\x01\x2c" + "\x00\x00\x00\x00"},
		{api.Outcome{E: -1, At: -1}, "\x01\x01\x01\x01" + "\x00\x00\x00\x00"},
		{api.Outcome{E: api.ErrRaise, Raise: "div", Out: "o"}, "\x01\x12\x00" + "\x01\x03div" + "\x00" + "\x01\x01o" + "\x00"},
		{api.Outcome{Binds: []api.Binding{{Name: "x", Type: "int", Value: "5"}, {Name: "-"}}},
			"\x00\x00\x00" + "\x01\x02" + "\x01\x01x\x01\x03int\x01\x015" + "\x01\x01-\x00\x00" + "\x00\x00"},
		{api.Outcome{Moves: []api.Move{{N: 3}, {Turn: true, N: -1}, {}}},
			"\x00\x00\x00\x00\x00" + "\x01\x03" + "\x00\x01\x06" + "\x01\x01\x01\x01" + "\x00\x00"},
	} {
		p := notebook.Reply(c.o)
		if string(p) != c.want {
			t.Errorf("%v: %x, want %x", c.o, p, c.want)
		}
		if o := read(t, []byte(c.want)); !sameOutcome(o, c.o) {
			t.Errorf("%x: %v, want %v", c.want, o, c.o)
		}
	}
}

// randomOutcome: any outcome, not only what a cell comes to.
func randomOutcome(rnd *rand.Rand) api.Outcome {
	number := func() int64 { return int64(rnd.Uint64() >> rnd.Intn(64)) }
	text := func() string {
		p := make([]byte, rnd.Intn(4)*rnd.Intn(100))
		rnd.Read(p)
		return string(p)
	}
	o := api.Outcome{E: api.Errno(number()), At: int(number()), Raise: text(), Out: text()}
	for range rnd.Intn(4) {
		o.Binds = append(o.Binds, api.Binding{Name: text(), Type: text(), Value: text()})
	}
	for range rnd.Intn(4) {
		o.Moves = append(o.Moves, api.Move{Turn: rnd.Intn(2) == 0, N: number()})
	}
	return o
}

// P18.2: Read is the inverse of Reply, and takes nothing but what Reply makes.
func TestReadRandom(t *testing.T) {
	rnd := rand.New(rand.NewSource(1))
	for range 3000 {
		o := randomOutcome(rnd)
		p := notebook.Reply(o)
		if got := read(t, p); !sameOutcome(got, o) {
			t.Fatalf("%v, not %v", got, o)
		}
		noReply(t, "more", append(bytes.Clone(p), byte(rnd.Intn(3))))
		noReply(t, "cut", p[:rnd.Intn(len(p))])
		q := bytes.Clone(p)
		q[rnd.Intn(len(q))] ^= byte(1 + rnd.Intn(5))
		if got, e := notebook.Read(q); e == api.OK && !bytes.Equal(notebook.Reply(got), q) {
			t.Fatalf("%x was read as %v", q, got)
		} else if e != api.OK {
			noReply(t, "another byte", q)
		}
	}
}

// noReply asks that there is no such outcome.
func noReply(t *testing.T, what string, p []byte) {
	t.Helper()
	if o, e := notebook.Read(p); e != api.ErrForm || !sameOutcome(o, api.Outcome{}) {
		t.Fatalf("%s: Read = %v, %d", what, o, e)
	}
}

// P18.2: wrong bytes.
func TestReadErrors(t *testing.T) {
	noReply(t, "nothing", nil)
	noReply(t, "a turn that is neither 0 nor 1", []byte("\x00\x00\x00\x00\x00\x01\x01\x01\x02\x01\x02"))
	noReply(t, "another encoding", []byte("\x01\x00\x00\x00\x00\x00\x00"))
	noReply(t, "no whole binding", []byte("\x00\x00\x00\x01\x01\x00\x00"))
	noReply(t, "sealed", octet.Seal(notebook.Reply(api.Outcome{})))
	for _, n := range []uint64{1, 1 << 16, 1<<16 + 1, 1 << 31, 1 << 63, math.MaxUint64} {
		w := &octet.Writer{}
		p := w.Uint(n).Done()
		noReply(t, "bindings that aren't there", append([]byte("\x00\x00\x00"), p...))
		noReply(t, "moves that aren't there", append([]byte("\x00\x00\x00\x00\x00"), p...))
		noReply(t, "letters that aren't there", append([]byte("\x00\x00"), p...))
		noReply(t, "letters that aren't there", append([]byte("\x00\x00\x00\x00"), p...))
	}
}

// P18.2: at most 65536 of each, and texts of at most MaxTrack bytes.
func TestReadMost(t *testing.T) {
	long := strings.Repeat("x", api.MaxTrack)
	for i, c := range []func(n int) api.Outcome{
		func(n int) api.Outcome { return api.Outcome{Binds: make([]api.Binding, 65536+n)} },
		func(n int) api.Outcome { return api.Outcome{Moves: make([]api.Move, 65536+n)} },
		func(n int) api.Outcome {
			return api.Outcome{Binds: make([]api.Binding, 65536), Moves: make([]api.Move, 65536+n)}
		},
		func(n int) api.Outcome { return api.Outcome{Raise: long + strings.Repeat("x", n)} },
		func(n int) api.Outcome { return api.Outcome{Out: long + strings.Repeat("x", n)} },
		func(n int) api.Outcome {
			return api.Outcome{Binds: []api.Binding{{Name: long + strings.Repeat("x", n)}}}
		},
		func(n int) api.Outcome {
			return api.Outcome{Binds: []api.Binding{{}, {Type: long + strings.Repeat("x", n)}}}
		},
		func(n int) api.Outcome {
			return api.Outcome{Binds: []api.Binding{{}, {Name: long, Type: long, Value: long + strings.Repeat("x", n)}}}
		},
	} {
		o := c(0)
		if got := read(t, notebook.Reply(o)); !sameOutcome(got, o) {
			t.Errorf("%d: not the same", i)
		}
		noReply(t, "too many", notebook.Reply(c(1)))
	}
}
