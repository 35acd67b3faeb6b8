package school_test

import (
	"slices"
	"testing"

	"battledore/api"
	"battledore/replica"
	"battledore/school"
)

// spoil changes all of a slice's memory, its spare capacity too.
func spoil[T any](l []T, by T) {
	l = l[:cap(l)]
	for i := range l {
		l[i] = by
	}
}

// busy: a school with replies, and with packets under way, some of them twice.
func busy(t *testing.T) *school.School {
	t.Helper()
	s := made(t, usual(3))
	leads(t, s, 0)
	for n := range uint64(5) {
		does(t, s, ask(0, 1, n+1, "let x = 1"), api.OK)
		does(t, s, ask(0, 1, n+1, "let x = 1"), api.OK)
	}
	does(t, s, calm(4), api.OK)
	does(t, s, ask(0, 1, 5, "x"), api.OK)
	does(t, s, ask(0, 1, 6, "x"), api.OK)
	does(t, s, tick(0, 0), api.OK)
	does(t, s, double(1), api.OK)
	does(t, s, double(1), api.OK)
	if len(s.Replies()) != 11 || len(s.Bag()) != 6 {
		t.Fatalf("%d replies, %d packets", len(s.Replies()), len(s.Bag()))
	}
	return s
}

// The rule about memory: what is returned is the caller's.
func TestResultsAreNew(t *testing.T) {
	s, same := busy(t), busy(t)
	for range 2 {
		bag, replies := s.Bag(), s.Replies()
		for i, p := range bag {
			rest := told(bag[i+1:])
			spoil(p.Bytes, '!')
			if told(bag[i+1:]) != rest {
				t.Errorf("the packet %d shares memory with another one", i)
			}
		}
		for i, x := range replies {
			rest := told(replies[i+1:])
			spoil(x.Data, '!')
			if told(replies[i+1:]) != rest {
				t.Errorf("the reply %d shares memory with another one", i)
			}
		}
		spoil(bag, replica.Packet{From: 99, To: 99, Bytes: []byte("spoilt")})
		spoil(replies, replica.Reply{Session: 99})
		if whole(s) != whole(same) {
			t.Fatal("it changes with what it has returned")
		}
	}
	for _, x := range []school.Step{double(0), tick(0, 1), drop(3), calm(2), ask(0, 1, 7, "x"), calm(1)} {
		bag, replies := told(s.Bag()), told(s.Replies())
		l, r := s.Bag(), s.Replies()
		does(t, s, x, api.OK)
		does(t, same, x, api.OK)
		if told(l) != bag || told(r) != replies {
			t.Errorf("%s changes what was returned", told(x))
		}
		if whole(s) != whole(same) {
			t.Errorf("%s does something else", told(x))
		}
	}
}

// The rule about memory: arguments stay as they are, and are not kept.
func TestArgumentsStay(t *testing.T) {
	s, same := busy(t), busy(t)
	x := ask(0, 1, 7, "")
	x.Cell = append(slices.Grow([]byte("x + 1"), 20), "spare"...)[:5]
	was := string(x.Cell[:cap(x.Cell)])
	does(t, s, x, api.OK)
	if string(x.Cell[:cap(x.Cell)]) != was {
		t.Error("the cell has changed")
	}
	spoil(x.Cell, '!')
	does(t, same, ask(0, 1, 7, "x + 1"), api.OK)
	x = start(1)
	x.Cuts = append(slices.Grow([]int{3, 2}, 5), 9, 9)[:2]
	does(t, s, x, api.OK)
	if !slices.Equal(x.Cuts[:4], []int{3, 2, 9, 9}) {
		t.Errorf("the cuts are %v", x.Cuts[:4])
	}
	spoil(x.Cuts, 99)
	does(t, same, start(1, 3, 2), api.OK)
	for _, x := range []school.Step{calm(1), start(1), calm(20)} {
		does(t, s, x, api.OK)
		does(t, same, x, api.OK)
		if whole(s) != whole(same) {
			t.Error("what was passed is kept")
		}
	}
}
