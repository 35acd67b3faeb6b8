package notebook_test

import (
	"bytes"
	"math"
	"math/rand"
	"testing"

	"battledore/api"
	"battledore/cell"
	"battledore/image"
	"battledore/notebook"
	"battledore/octet"
	"battledore/session"
)

// filled: a book with entries of three sessions.
func filled(t *testing.T) *notebook.Book {
	t.Helper()
	b := notebook.New()
	b.Apply(api.Entry{})
	applies(t, b, 1, 1, "let r = ref 5", "r : int ref = {5}")
	applies(t, b, 2, 4, "r := !r * 2 ;; !r", "- : unit = (), - : int = 10")
	applies(t, b, 3, 1, "1 / 0", "E9 at 0 div")
	applies(t, b, 3, 2, "move 1", "- : unit = (); m")
	return b
}

func noBook(t *testing.T, what string, p []byte, want api.Errno) {
	t.Helper()
	if b, e := notebook.Load(p); b != nil || e != want {
		t.Errorf("%s: Load = %v, %d, want %d", what, b, e, want)
	}
}

// P18.2: the errors of octet.Open.
func TestLoadUnsealed(t *testing.T) {
	p := filled(t).Save()
	for n := range p {
		want := api.ErrSum
		if n < 4 {
			want = api.ErrForm
		}
		noBook(t, "cut", p[:n], want)
	}
	for i := range p {
		q := bytes.Clone(p)
		q[i] ^= 1 << (i % 8)
		noBook(t, "another bit", q, api.ErrSum)
	}
	noBook(t, "more", append(bytes.Clone(p), 0), api.ErrSum)
	noBook(t, "nothing", nil, api.ErrForm)
	noBook(t, "nothing, sealed", octet.Seal(nil), api.ErrForm)
}

// P18.2: bytes that are sealed, but that Save doesn't make.
func TestLoadErrors(t *testing.T) {
	b := filled(t)
	n, world, sessions := parts(t, b.Save())
	loaded(t, laid(n, world, sessions))
	noBook(t, "no world", laid(n, nil, sessions), api.ErrForm)
	noBook(t, "a world that isn't sealed", laid(n, world[:len(world)-1], sessions), api.ErrSum)
	noBook(t, "no sessions", laid(n, world, nil), api.ErrForm)
	noBook(t, "sessions, and more", laid(n, world, append(bytes.Clone(sessions), 0)), api.ErrForm)
	inner, _ := octet.Open(b.Save())
	noBook(t, "more", octet.Seal(append(bytes.Clone(inner), 0)), api.ErrForm)
	noBook(t, "less", octet.Seal(inner[:len(inner)-1]), api.ErrForm)
	noBook(t, "sealed twice", octet.Seal(b.Save()), api.ErrForm)
	for _, p := range [][]byte{world, octet.Seal(sessions), octet.Seal(notebook.Reply(api.Outcome{}))} {
		noBook(t, "something else", p, api.ErrForm)
	}
}

// P18.2: a world and sessions that are valid, but don't make a book.
func TestLoadWhatDoesNotGoTogether(t *testing.T) {
	b := filled(t)
	_, world, sessions := parts(t, b.Save())
	_, first, none := parts(t, notebook.New().Save())
	loaded(t, laid(3, world, sessions))
	noBook(t, "more sessions than entries", laid(2, world, sessions), api.ErrForm)
	noBook(t, "more sessions than entries", laid(0, world, sessions), api.ErrForm)
	loaded(t, laid(9, first, none))
	noBook(t, "a world without a session", laid(9, world, none), api.ErrForm)
	loaded(t, laid(9, first, sessions))
	for _, quota := range []int{65535, 65537, 1000, api.MaxWords} {
		x, _ := image.New(quota)
		noBook(t, "another quota", laid(9, image.Save(x), none), api.ErrForm)
		x, _ = cell.Run(x, "let r = ref 5 ;; r := !r * 2", 100)
		noBook(t, "another quota", laid(9, image.Save(x), sessions), api.ErrForm)
	}
	s := session.New()
	comes(t, "Put", s.Put(1, 1, notebook.Reply(api.Outcome{})), api.OK)
	loaded(t, laid(9, world, s.Save()))
	comes(t, "Put", s.Put(2, 1, []byte("no outcome")), api.OK)
	noBook(t, "a reply that is none", laid(9, world, s.Save()), api.ErrForm)
}

// P18.2, P1: bytes that are nearly right are no book, or are saved as the same bytes.
func TestLoadNearly(t *testing.T) {
	inner, _ := octet.Open(filled(t).Save())
	n, world, sessions := parts(t, filled(t).Save())
	open, _ := octet.Open(world)
	rnd := rand.New(rand.NewSource(1))
	for i := range 3000 {
		var p []byte
		switch i % 3 {
		case 0:
			p = bytes.Clone(inner)
			p[rnd.Intn(len(p))] ^= byte(1 + rnd.Intn(255))
			p = octet.Seal(p)
		case 1:
			q := bytes.Clone(open)
			q[rnd.Intn(len(q))] ^= byte(1 + rnd.Intn(3))
			p = laid(n, octet.Seal(q), sessions)
		case 2:
			q := bytes.Clone(sessions)
			q[rnd.Intn(len(q))] ^= byte(1 + rnd.Intn(3))
			p = laid(n, world, q)
		}
		b, e := notebook.Load(p)
		if (b == nil) == (e == api.OK) {
			t.Fatalf("Load: %v, %d", b, e)
		}
		if e != api.OK {
			continue
		}
		if !bytes.Equal(b.Save(), p) {
			t.Fatalf("saved as other bytes: %x", p)
		}
		if _, e := b.Apply(entry(9, 1, "!r")); e != api.OK {
			t.Fatalf("Apply: %d", e)
		}
	}
}

// P18.2, P1: a nil book.
func TestNil(t *testing.T) {
	var b *notebook.Book
	for _, e := range []api.Entry{{}, entry(1, 1, "1"), entry(1, 0, "("), entry(math.MaxUint64, 1, "1")} {
		if p, err := b.Apply(e); len(p) > 0 || err != api.ErrNone {
			t.Errorf("Apply = %x, %d", p, err)
		}
		if p, err := b.Ask(e.Session, e.Number); len(p) > 0 || err != api.ErrState {
			t.Errorf("Ask = %x, %d", p, err)
		}
	}
	if b.Len() != 0 || len(b.Save()) > 0 {
		t.Errorf("Len = %d, Save = %x", b.Len(), b.Save())
	}
}

// The rule about memory: entries aren't kept, replies and bytes aren't shared.
func TestMemory(t *testing.T) {
	b := notebook.New()
	text := append(make([]byte, 0, 40), "let s = \"abc\" more"...)
	e := api.Entry{Session: 1, Number: 1, Cell: text[:13]}
	p, _ := b.Apply(e)
	if string(text[:20]) != "let s = \"abc\" more\x00\x00" {
		t.Errorf("the argument became %q", text[:20])
	}
	want, saved := bytes.Clone(p), b.Save()
	kept := bytes.Clone(saved)
	c := loaded(t, saved)
	spoil(text)
	spoil(p)
	q, _ := b.Ask(1, 1)
	r, _ := b.Apply(entry(1, 1, ""))
	spoil(q)
	if !bytes.Equal(r, want) {
		t.Errorf("the other one became %q", r)
	}
	spoil(saved)
	for _, b := range []*notebook.Book{b, c} {
		if p, e := b.Ask(1, 1); !bytes.Equal(p, want) || e != api.OK {
			t.Errorf("Ask = %q, %d", p, e)
		}
	}
	if !bytes.Equal(c.Save(), kept) {
		t.Error("the loaded one has changed")
	}
	applies(t, b, 1, 2, "s", "- : string = \"abc\"")
	applies(t, c, 1, 2, "let r = ref 0 ;; s", "r : int ref = {0}, - : string = \"abc\"")
	applies(t, b, 1, 3, "r", "E8 at 0")
}

// The rule about memory: outcomes that are read share nothing.
func TestReadMemory(t *testing.T) {
	o := api.Outcome{Binds: []api.Binding{{Name: "x"}}, Moves: []api.Move{{N: 1}}, Out: "out"}
	p := notebook.Reply(o)
	x, y := read(t, p), read(t, p)
	spoil(p)
	x.Binds[0].Name, x.Moves[0].N = "y", 2
	if !sameOutcome(y, o) {
		t.Errorf("it became %v", y)
	}
}
