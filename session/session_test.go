package session_test

import (
	"math"
	"math/rand"
	"strconv"
	"strings"
	"testing"

	"battledore/api"
	"battledore/session"
)

// P17.1: the example of the chapter, and a number that isn't the next one.
func TestAskAndPut(t *testing.T) {
	if session.Most != 64 {
		t.Errorf("Most = %d", session.Most)
	}
	x := session.New()
	is(t, "new", x)
	asks(t, x, 7, 1, "", api.ErrNone)
	comes(t, "Put", x.Put(7, 1, []byte("a")), api.OK)
	is(t, "one", x, call{7, 1, "a"})
	asks(t, x, 7, 2, "", api.ErrNone)
	asks(t, x, 6, 1, "", api.ErrNone)
	asks(t, x, 8, 1, "", api.ErrNone)
	comes(t, "Put", x.Put(7, 2, []byte("b")), api.OK)
	is(t, "two", x, call{7, 2, "b"})
	asks(t, x, 7, 1, "", api.ErrStale)
	comes(t, "Put", x.Put(7, 50, []byte("c")), api.OK)
	is(t, "later", x, call{7, 50, "c"})
	asks(t, x, 7, 49, "", api.ErrStale)
	asks(t, x, 7, 51, "", api.ErrNone)
	comes(t, "Put", x.Put(7, math.MaxUint64, nil), api.OK)
	is(t, "last", x, call{7, math.MaxUint64, ""})
	asks(t, x, 7, math.MaxUint64-1, "", api.ErrStale)
}

// P17.1: Put has the errors of Ask, and changes nothing with them.
func TestPutErrors(t *testing.T) {
	x := put(t, call{7, 5, "a"})
	for _, c := range []struct {
		id, number uint64
		ask, put   api.Errno
	}{
		{0, 0, api.ErrArg, api.ErrArg},
		{0, 5, api.ErrArg, api.ErrArg},
		{7, 0, api.ErrArg, api.ErrArg},
		{9, 0, api.ErrArg, api.ErrArg},
		{0, math.MaxUint64, api.ErrArg, api.ErrArg},
		{7, 5, api.OK, api.ErrTwice},
		{7, 4, api.ErrStale, api.ErrStale},
		{7, 1, api.ErrStale, api.ErrStale},
	} {
		if _, e := x.Ask(c.id, c.number); e != c.ask {
			t.Errorf("Ask(%d, %d): %d, want %d", c.id, c.number, e, c.ask)
		}
		comes(t, "Put "+told(call{c.id, c.number, ""}), x.Put(c.id, c.number, []byte("other")), c.put)
		is(t, "after it", x, call{7, 5, "a"})
	}
}

// P17.1: there is no room beyond Most sessions, for those that exist there is.
func TestMost(t *testing.T) {
	l := full()
	last := l[len(l)-1]
	x := put(t, l[:len(l)-1]...)
	asks(t, x, last.id, 1, "", api.ErrNone)
	asks(t, x, 15, 1, "", api.ErrNone)
	comes(t, "Put", x.Put(last.id, last.number, []byte(last.reply)), api.OK)
	for _, id := range []uint64{1, 9, 11, 15, last.id - 1, last.id + 1, math.MaxUint64} {
		for _, number := range []uint64{1, 5, math.MaxUint64} {
			asks(t, x, id, number, "", api.ErrLong)
			comes(t, "Put", x.Put(id, number, nil), api.ErrLong)
		}
		asks(t, x, id, 0, "", api.ErrArg)
		comes(t, "Put", x.Put(id, 0, nil), api.ErrArg)
	}
	asks(t, x, 0, 1, "", api.ErrArg)
	is(t, "full", x, l...)
	for _, c := range l {
		asks(t, x, c.id, 4, "", api.ErrStale)
		asks(t, x, c.id, 6, "", api.ErrNone)
		comes(t, "Put", x.Put(c.id, 5, nil), api.ErrTwice)
	}
	comes(t, "Put", x.Put(10, 6, []byte("more")), api.OK)
	l[0] = call{10, 6, "more"}
	is(t, "full, and more", x, l...)
	is(t, "loaded", loaded(t, x.Save()), l...)
	asks(t, loaded(t, x.Save()), 5, 1, "", api.ErrLong)
}

// P17.2: Save is as the chapter says, in increasing order, and Load reads it.
func TestSave(t *testing.T) {
	x := put(t, call{300, 1, "ab"}, call{7, 2, ""}, call{math.MaxUint64, 256, "c"}, call{8, math.MaxUint64, "d"})
	want := "\x01\x04" +
		"\x01\x07" + "\x01\x02" + "\x00" +
		"\x01\x08" + "\x08\xff\xff\xff\xff\xff\xff\xff\xff" + "\x01\x01d" +
		"\x02\x01\x2c" + "\x01\x01" + "\x01\x02ab" +
		"\x08\xff\xff\xff\xff\xff\xff\xff\xff" + "\x02\x01\x00" + "\x01\x01c"
	if got := string(x.Save()); got != want {
		t.Errorf("Save = %x, want %x", got, want)
	}
	y := loaded(t, []byte(want))
	is(t, "loaded", y, call{300, 1, "ab"}, call{7, 2, ""}, call{math.MaxUint64, 256, "c"}, call{8, math.MaxUint64, "d"})
	if got := string(session.New().Save()); got != "\x00" {
		t.Errorf("the empty one is %x", got)
	}
	is(t, "the empty one", loaded(t, []byte{0}))
	long := strings.Repeat("long", 500000)
	is(t, "long", loaded(t, put(t, call{1, 1, long}).Save()), call{1, 1, long})
}

// P17.1, P17.2, P2: random calls held against a model; the table is loaded again now and then.
func TestLikeModel(t *testing.T) {
	for seed := range int64(300) {
		rnd := rand.New(rand.NewSource(seed))
		ids := 1 + rnd.Intn(90)
		x, have := session.New(), map[uint64]call{}
		for n := range 400 {
			c := call{uint64(rnd.Intn(ids + 1)), uint64(rnd.Intn(6 + n/50)), strconv.Itoa(n)}
			old, there := have[c.id]
			want := api.ErrNone
			switch {
			case c.id == 0 || c.number == 0:
				want = api.ErrArg
			case !there && len(have) == 64:
				want = api.ErrLong
			case there && old.number > c.number:
				want = api.ErrStale
			case there && old.number == c.number:
				want = api.OK
			}
			reply := ""
			if want == api.OK {
				reply = old.reply
			}
			asks(t, x, c.id, c.number, reply, want)
			if rnd.Intn(2) == 0 {
				switch want {
				case api.ErrNone:
					want, have[c.id] = api.OK, c
				case api.OK:
					want = api.ErrTwice
				}
				comes(t, "Put "+told(c), x.Put(c.id, c.number, []byte(c.reply)), want)
			}
			if rnd.Intn(20) == 0 {
				x = loaded(t, x.Save())
			}
		}
		var l []call
		for _, c := range have {
			l = append(l, c)
		}
		is(t, "seed "+strconv.FormatInt(seed, 10), x, l...)
		if t.Failed() {
			return
		}
	}
}
