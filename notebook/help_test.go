package notebook_test

import (
	"bytes"
	"reflect"
	"strconv"
	"strings"
	"testing"

	"battledore/api"
	"battledore/cell"
	"battledore/image"
	"battledore/notebook"
	"battledore/octet"
	"battledore/session"
)

// comes asks that a call returned that error.
func comes(t *testing.T, what string, e, want api.Errno) {
	t.Helper()
	if e != want {
		t.Errorf("%s: %d, want %d", what, e, want)
	}
}

func entry(id, number uint64, cell string) api.Entry {
	return api.Entry{Term: 1, Session: id, Number: number, Cell: []byte(cell)}
}

func told(e api.Entry) string {
	return strconv.FormatUint(e.Session, 10) + "/" + strconv.FormatUint(e.Number, 10) + " " + strconv.Quote(string(e.Cell))
}

// read: the outcome of some bytes, which must be there.
func read(t *testing.T, p []byte) api.Outcome {
	t.Helper()
	o, e := notebook.Read(p)
	if e != api.OK {
		t.Fatalf("Read(%x): %d", p, e)
	}
	return o
}

// shown: an outcome as a short text.
func shown(o api.Outcome) string {
	s := ""
	if o.E != api.OK {
		s += "E" + strconv.Itoa(int(o.E)) + " at " + strconv.Itoa(o.At) + " " + o.Raise + " "
	}
	for _, b := range o.Binds {
		s += b.Name + " : " + b.Type + " = " + b.Value + ", "
	}
	return strings.TrimRight(s, ", ") + strings.TrimRight("; "+o.Out+strings.Repeat("m", len(o.Moves)), "; ")
}

// applies: an entry that must be executed, or was; it must come to that.
func applies(t *testing.T, b *notebook.Book, id, number uint64, cell, want string) {
	t.Helper()
	n := b.Len()
	p, e := b.Apply(entry(id, number, cell))
	if e != api.OK || shown(read(t, p)) != want {
		t.Errorf("%s: %s, %d, want %s", told(entry(id, number, cell)), shown(read(t, p)), e, want)
	}
	if b.Len() != n+1 {
		t.Errorf("Len = %d behind %d", b.Len(), n)
	}
}

// refuses: an entry that counts, but for which there is an error; nothing but Len changes.
func refuses(t *testing.T, b *notebook.Book, e api.Entry, want api.Errno) {
	t.Helper()
	n := b.Len()
	_, world, sessions := parts(t, b.Save())
	p, got := b.Apply(e)
	if len(p) > 0 || got != want {
		t.Errorf("%s: %x, %d, want %d", told(e), p, got, want)
	}
	if b.Len() != n+1 {
		t.Errorf("%s: Len = %d behind %d", told(e), b.Len(), n)
	}
	if !bytes.Equal(b.Save(), laid(n+1, world, sessions)) {
		t.Errorf("%s: something changed", told(e))
	}
}

// parts: what a saved book contains.
func parts(t *testing.T, p []byte) (uint64, []byte, []byte) {
	t.Helper()
	inner, e := octet.Open(p)
	r := octet.NewReader(inner)
	n, world, sessions := r.Uint(), r.Bytes(len(p)), r.Bytes(len(p))
	if e != api.OK || !r.End() {
		t.Fatalf("these aren't the bytes of a book: %x", p)
	}
	return n, world, sessions
}

// laid: the bytes of a book that has these parts.
func laid(n uint64, world, sessions []byte) []byte {
	w := &octet.Writer{}
	return octet.Seal(w.Uint(n).Bytes(world).Bytes(sessions).Done())
}

// loaded: the book of some bytes, which must be there, and is saved as the same bytes.
func loaded(t *testing.T, p []byte) *notebook.Book {
	t.Helper()
	b, e := notebook.Load(p)
	if b == nil || e != api.OK {
		t.Fatalf("Load: %d", e)
	}
	if !bytes.Equal(b.Save(), p) {
		t.Fatal("saved as other bytes")
	}
	return b
}

// model is what the chapter says of a book, with the layers below.
type model struct {
	n       uint64
	world   image.World
	replies map[uint64]last
}

type last struct {
	number uint64
	reply  []byte
}

func newModel(t *testing.T) *model {
	t.Helper()
	x, e := image.New(65536)
	comes(t, "image.New", e, api.OK)
	return &model{world: x, replies: map[uint64]last{}}
}

// ask: what the sessions know.
func (m *model) ask(id, number uint64) ([]byte, api.Errno) {
	old, there := m.replies[id]
	switch {
	case id == 0 || number == 0:
		return nil, api.ErrArg
	case !there && len(m.replies) == session.Most:
		return nil, api.ErrLong
	case !there || old.number < number:
		return nil, api.ErrNone
	case old.number > number:
		return nil, api.ErrStale
	}
	return old.reply, api.OK
}

func (m *model) apply(e api.Entry) ([]byte, api.Errno) {
	m.n++
	if e.Session == 0 {
		return nil, api.OK
	}
	p, err := m.ask(e.Session, e.Number)
	if err != api.ErrNone {
		return p, err
	}
	x, o := cell.Run(m.world, string(e.Cell), 2000)
	m.world = x
	m.replies[e.Session] = last{e.Number, notebook.Reply(o)}
	return m.replies[e.Session].reply, api.OK
}

// sameOutcome: are these equal, where nothing is as good as an empty list?
func sameOutcome(a, b api.Outcome) bool {
	if len(a.Binds)+len(b.Binds) == 0 {
		a.Binds, b.Binds = nil, nil
	}
	if len(a.Moves)+len(b.Moves) == 0 {
		a.Moves, b.Moves = nil, nil
	}
	return reflect.DeepEqual(a, b)
}

// spoil changes all of some bytes' memory, the spare capacity too.
func spoil(p []byte) {
	for i := range p[:cap(p)] {
		p[:cap(p)][i] = '!'
	}
}
