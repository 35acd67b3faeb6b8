package ballot_test

import (
	"bytes"
	"math"
	"math/rand"
	"slices"
	"strings"
	"testing"

	"battledore/api"
	"battledore/ballot"
	"battledore/octet"
)

// messages: some of all kinds, and some that no node sends.
func messages() []ballot.Msg {
	great := uint64(math.MaxUint64)
	return []ballot.Msg{
		{},
		{Kind: ballot.VoteAsk, From: 1, To: 2, Term: 3, Index: 4, LogTerm: 5},
		{Kind: ballot.VoteTell, From: 6, Term: 1 << 60, OK: true},
		{Kind: ballot.LogAsk, To: 6, Term: 300, Index: 70000, LogTerm: 299, Commit: 69999, Entries: entries(299, 300, 300)},
		{Kind: ballot.LogAsk, To: 1, Term: 1, Commit: 1, Entries: []api.Entry{{}, {Cell: make([]byte, api.MaxRecord)}}},
		{Kind: ballot.LogTell, From: 2, To: 1, Term: 7, Index: 9},
		{Kind: ballot.SnapAsk, From: 2, To: 1, Term: 7, Index: 9, LogTerm: 8, Data: []byte("a snapshot")},
		{Kind: 255, From: math.MinInt, To: math.MaxInt, Term: great, Index: great, LogTerm: great, Commit: great, OK: true,
			Entries: []api.Entry{{Term: great, Session: great, Number: great, Cell: []byte{0, 255}}}, Data: []byte{0}},
	}
}

// P16.6: the bytes of a message.
func TestEncode(t *testing.T) {
	m := ballot.Msg{Kind: 3, From: 2, To: 1, Term: 300, Index: 7, LogTerm: 6, Commit: 5, OK: true, Data: []byte("de")}
	m.Entries = []api.Entry{{Term: 6, Session: 8, Number: 9, Cell: []byte("abc")}, {}}
	plain := []byte{1, 3, 1, 4, 1, 2, 2, 1, 44, 1, 7, 1, 6, 1, 5, 1, 1, 1, 2, 1, 6, 1, 8, 1, 9, 1, 3, 'a', 'b', 'c', 0, 0, 0, 0, 1, 2, 'd', 'e'}
	if p := ballot.Encode(m); !bytes.Equal(p, octet.Seal(plain)) {
		t.Errorf("Encode = %v", p)
	}
	none := ballot.Msg{From: -1, To: -2}
	if p := ballot.Encode(none); !bytes.Equal(p, octet.Seal([]byte{0, 1, 1, 1, 3, 0, 0, 0, 0, 0, 0, 0})) {
		t.Errorf("Encode = %v", p)
	}
}

// P16.6: what was encoded is decoded.
func TestDecode(t *testing.T) {
	for _, m := range messages() {
		p := ballot.Encode(m)
		got, e := ballot.Decode(p)
		comes(t, toldMsg(m), e, api.OK)
		sends(t, "Decode", []ballot.Msg{got}, m)
		if !bytes.Equal(ballot.Encode(got), p) {
			t.Errorf("%s is encoded otherwise", toldMsg(m))
		}
	}
}

// undone asks that bytes aren't a message.
func undone(t *testing.T, what string, p []byte, want api.Errno) {
	t.Helper()
	m, e := ballot.Decode(p)
	comes(t, what, e, want)
	sends(t, what, []ballot.Msg{m}, ballot.Msg{})
}

// P16.6: bytes that aren't sealed.
func TestDecodeUnsealed(t *testing.T) {
	for n := range 4 {
		undone(t, "too few bytes", make([]byte, n), api.ErrForm)
	}
	undone(t, "no bytes", nil, api.ErrForm)
	undone(t, "nothing sealed", octet.Seal(nil), api.ErrForm)
	for _, m := range messages() {
		p := ballot.Encode(m)
		if len(p) > 1000 {
			continue
		}
		for n := range p {
			want := api.ErrSum
			if n < 4 || n == 4 && bytes.Equal(p[:4], make([]byte, 4)) { // the sum of nothing is 0
				want = api.ErrForm
			}
			undone(t, "a part", p[:n], want)
			q := bytes.Clone(p)
			q[n] ^= 4
			undone(t, "another byte", q, api.ErrSum)
		}
		undone(t, "one more byte", append(p, 0), api.ErrSum)
	}
}

// P16.6: sealed bytes that aren't a message: too few, too many, and numbers that no message has.
func TestDecodeForm(t *testing.T) {
	for _, m := range messages() {
		p := ballot.Encode(m)
		plain := p[:len(p)-4]
		if len(plain) > 1000 {
			continue
		}
		for n := range plain {
			undone(t, "a part", octet.Seal(plain[:n]), api.ErrForm)
		}
		undone(t, "one more byte", octet.Seal(append(bytes.Clone(plain), 0)), api.ErrForm)
	}
	for _, p := range [][]byte{
		{2, 1, 0, 0, 0, 0, 0, 0, 0, 0, 0, 0},                               // the kind 256
		{1, 0, 0, 0, 0, 0, 0, 0, 0, 0, 0},                                  // a nought ahead
		{0, 0, 0, 9, 1, 1, 1, 1, 1, 1, 1, 1, 1, 0, 0, 0, 0, 0, 0},          // nine bytes
		{0, 0, 0, 0, 0, 0, 0, 1, 2, 0, 0},                                  // OK is 2
		{0, 0, 0, 0, 0, 0, 0, 0, 1, 1, 0, 0, 0, 0},                         // no Data
		{0, 0, 0, 0, 0, 0, 0, 0, 8, 255, 255, 255, 255, 255, 255, 255, 15}, // many entries
		{0, 0, 0, 0, 0, 0, 0, 0, 0, 8, 255, 255, 255, 255, 255, 255, 255, 15, 1},
	} {
		undone(t, "wrong numbers", octet.Seal(p), api.ErrForm)
	}
}

// P16.6: how much a message may have at most.
func TestDecodeBounds(t *testing.T) {
	for more, want := range []api.Errno{api.OK, api.ErrForm} {
		for _, m := range []ballot.Msg{
			{Kind: ballot.LogAsk, Entries: make([]api.Entry, 65536+more)},
			{Kind: ballot.LogAsk, Entries: []api.Entry{{}, {Cell: make([]byte, api.MaxRecord+more)}, {}}},
			{Kind: ballot.SnapAsk, Data: make([]byte, api.MaxTrack+more)},
		} {
			got, e := ballot.Decode(ballot.Encode(m))
			comes(t, "a great message", e, want)
			if want != api.OK {
				m = ballot.Msg{}
			}
			if toldMsg(got) != toldMsg(m) {
				t.Errorf("a great message: %d entries, %d bytes", len(got.Entries), len(got.Data))
			}
		}
	}
}

// P16.6: of any bytes Decode makes only what they encode.
func TestDecodeAny(t *testing.T) {
	rnd := rand.New(rand.NewSource(1))
	fine := 0
	for range 100000 {
		var p []byte
		for range 9 + rnd.Intn(12) {
			if rnd.Intn(3) > 0 {
				p = append(p, 0)
			} else {
				p = append(p, 1, byte(rnd.Intn(4)))
			}
		}
		p = octet.Seal(p)
		m, e := ballot.Decode(p)
		if e != api.OK {
			undone(t, "any bytes", p, api.ErrForm)
		} else if fine++; !bytes.Equal(ballot.Encode(m), p) {
			t.Fatalf("%v is %s", p, toldMsg(m))
		}
	}
	if fine < 1000 {
		t.Errorf("only %d messages", fine)
	}
}

// The rule about memory, for messages and their bytes.
func TestMemoryOfBytes(t *testing.T) {
	for _, m := range messages() {
		want := toldMsg(m)
		m.Data, m.Entries = roomy(m.Data), roomyEntries(m.Entries)
		p, q := ballot.Encode(m), ballot.Encode(m)
		kept := bytes.Clone(p)
		x, _ := ballot.Decode(p)
		y, _ := ballot.Decode(p)
		if !bytes.Equal(p, kept) {
			t.Errorf("%s: its bytes changed", want)
		}
		spoil(p, '!')
		spoilMsgs([]ballot.Msg{x})
		if !bytes.Equal(q, kept) || toldMsg(y) != want || toldMsg(m) != want {
			t.Errorf("%s: spoilt", want)
		}
		if spare := m.Data[:cap(m.Data)]; !strings.HasPrefix(string(spare[len(m.Data):]), "spare bytes") {
			t.Errorf("%s: the spare bytes are %q", want, spare)
		}
		spoil(y.Data, '!')
		for i, a := range y.Entries {
			spoil(a.Cell, '!')
			for _, b := range slices.Concat(y.Entries[:i], y.Entries[i+1:], m.Entries) {
				if len(a.Cell) > 0 && len(b.Cell) > 0 && &a.Cell[0] == &b.Cell[0] {
					t.Errorf("%s: two cells are one", want)
				}
			}
		}
	}
}
