package drum_test

import (
	"math"
	"testing"

	"battledore/api"
)

// P13.1: the call in which the power fails: Append and Write are executed, Sync isn't.
func TestFailure(t *testing.T) {
	for _, c := range []struct {
		a    act
		cut  int
		want string
	}{
		{add("cd"), -1, "ab"},
		{add("cd"), 0, "ab"},
		{add("cd"), 1, "abc"},
		{add("cd"), 2, "abcd"},
		{put("wxyz"), -1, "ab"},
		{put("wxyz"), 0, ""},
		{put("wxyz"), 1, "w"},
		{put("wxyz"), 4, "wxyz"},
		{save, -1, "ab"},
		{save, 2, "ab"},
	} {
		d := did(t, 10, put("ab"), save)
		comes(t, "Arm", d.Arm(1), api.OK)
		stands(t, d, true, 2)
		comes(t, c.a.name, do(d, c.a), api.ErrCrash)
		stands(t, d, false, 3)
		comes(t, "Restart", d.Restart([]int{c.cut}), api.OK)
		stands(t, d, true, 3)
		holds(t, d, 0, c.want)
	}
}

// P13.1, P13.2: what a Sync in which the power fails should have made durable isn't.
func TestFailedSync(t *testing.T) {
	for _, c := range []struct {
		l    []act
		cut  int
		want string
	}{
		{[]act{put("ab"), save, add("cd")}, -1, "ab"},
		{[]act{put("ab"), save, add("cd")}, 1, "abc"},
		{[]act{put("ab"), save, put("cde")}, -1, "ab"},
		{[]act{put("ab"), save, put("cde")}, 1, "c"},
		{[]act{put("ab")}, -1, ""},
		{[]act{add("ab")}, -1, ""},
	} {
		d := did(t, 10, c.l...)
		d.Arm(1)
		comes(t, "Sync", d.Sync(0), api.ErrCrash)
		d.Restart([]int{c.cut})
		holds(t, d, 0, c.want)
	}
}

// P13.1: the n-th call: those of all tracks are counted, Read and Arm are not, nor what is rejected.
func TestNth(t *testing.T) {
	for n := 1; n <= 4; n++ {
		d := did(t, 3, put("a"), save)
		comes(t, "Arm", d.Arm(n), api.OK)
		for i, a := range []act{add("b"), {name: "write", bytes: "x", track: 1}, {name: "sync", track: 1}, save} {
			comes(t, "no track", d.Append(2, []byte("c")), api.ErrArg)
			comes(t, "no track", d.Write(-1, nil), api.ErrArg)
			comes(t, "no track", d.Sync(2), api.ErrArg)
			comes(t, "no room", d.Append(0, []byte("cde")), api.ErrFull)
			comes(t, "no room", d.Write(1, []byte("cdef")), api.ErrFull)
			comes(t, "wrong", d.Arm(-1), api.ErrArg)
			d.Read(0)
			stands(t, d, true, 2+i)
			if i+1 < n {
				comes(t, a.name, do(d, a), api.OK)
				continue
			}
			comes(t, a.name, do(d, a), api.ErrCrash)
			stands(t, d, false, 2+n)
			break
		}
	}
}

// P13.1: a later Arm replaces an earlier one; 0: the power doesn't fail.
func TestArmAgain(t *testing.T) {
	d := made(t, 1, 10)
	for _, n := range []int{1, 3, 2} {
		comes(t, "Arm", d.Arm(n), api.OK)
	}
	comes(t, "Append", d.Append(0, []byte("a")), api.OK)
	comes(t, "Arm", d.Arm(2), api.OK)
	comes(t, "Append", d.Append(0, []byte("b")), api.OK)
	comes(t, "Arm", d.Arm(0), api.OK)
	for range 5 {
		comes(t, "Sync", d.Sync(0), api.OK)
	}
	comes(t, "Arm", d.Arm(math.MaxInt), api.OK)
	comes(t, "Sync", d.Sync(0), api.OK)
	comes(t, "Arm", d.Arm(1), api.OK)
	comes(t, "wrong", d.Arm(math.MinInt), api.ErrArg)
	comes(t, "Sync", d.Sync(0), api.ErrCrash)
	stands(t, d, false, 9)
}

// P13.1: while the power is off nothing can be done, and nothing is counted; ErrArg comes first, ErrFull last.
func TestOff(t *testing.T) {
	d := did(t, 4, put("ab"), save)
	d.Arm(1)
	comes(t, "Append", d.Append(0, []byte("c")), api.ErrCrash)
	for range 3 {
		p, e := d.Read(0)
		comes(t, "Read", e, api.ErrCrash)
		if len(p) != 0 {
			t.Errorf("%q is read", p)
		}
		comes(t, "Append", d.Append(0, []byte("d")), api.ErrCrash)
		comes(t, "Write", d.Write(0, []byte("d")), api.ErrCrash)
		comes(t, "Sync", d.Sync(0), api.ErrCrash)
		comes(t, "too long, off", d.Append(1, make([]byte, 9)), api.ErrCrash)
		comes(t, "too long, off", d.Write(1, make([]byte, 9)), api.ErrCrash)
		comes(t, "Read, no track", second(d.Read(2)), api.ErrArg)
		comes(t, "Append, no track", d.Append(2, make([]byte, 9)), api.ErrArg)
		comes(t, "Write, no track", d.Write(-1, make([]byte, 9)), api.ErrArg)
		comes(t, "Sync, no track", d.Sync(2), api.ErrArg)
		stands(t, d, false, 3)
	}
	if d.Tracks() != 2 || d.Most() != 4 {
		t.Errorf("Tracks = %d, Most = %d", d.Tracks(), d.Most())
	}
	d.Restart([]int{9, 9})
	holds(t, d, 0, "abc")
	holds(t, d, 1, "")
}

// P13.1, P13.2: Arm while the power is off returns ErrArg alone, turns nothing on, and is forgotten at Restart.
func TestArmWhileOff(t *testing.T) {
	d := made(t, 1, 10)
	d.Arm(1)
	d.Sync(0)
	comes(t, "wrong", d.Arm(-1), api.ErrArg)
	comes(t, "Arm", d.Arm(0), api.OK)
	stands(t, d, false, 1)
	comes(t, "Arm", d.Arm(2), api.OK)
	comes(t, "Append", d.Append(0, []byte("a")), api.ErrCrash)
	d.Restart(nil)
	for range 5 {
		comes(t, "Append", d.Append(0, []byte("a")), api.OK)
	}
	holds(t, d, 0, "aaaaa")
	stands(t, d, true, 6)
}

func second(_ []byte, e api.Errno) api.Errno { return e }
