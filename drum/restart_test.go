package drum_test

import (
	"math"
	"testing"

	"battledore/api"
)

// P13.2: what a track keeps, of each cut.
func TestRestart(t *testing.T) {
	for _, c := range []struct {
		l    []act
		cut  int
		want string
	}{
		{nil, 5, ""},
		{[]act{save}, 5, ""},
		{[]act{add("ab")}, -1, ""},
		{[]act{add("ab")}, 0, ""},
		{[]act{add("ab")}, 1, "a"},
		{[]act{add("ab")}, 2, "ab"},
		{[]act{add("ab")}, 3, "ab"},
		{[]act{add("ab"), save}, -1, "ab"},
		{[]act{add("ab"), save}, 1, "ab"},
		{[]act{add("ab"), save, add("cd")}, -1, "ab"},
		{[]act{add("ab"), save, add("cd")}, 0, "ab"},
		{[]act{add("ab"), save, add("cd")}, 1, "abc"},
		{[]act{add("ab"), save, add("cd")}, 2, "abcd"},
		{[]act{add("ab"), save, add("cd")}, math.MaxInt, "abcd"},
		{[]act{add("ab"), save, add("cd")}, math.MinInt, "ab"},
		{[]act{add("ab"), save, add("cd"), add("e")}, 3, "abcde"},
		{[]act{add("ab"), save, add("cd"), save, add("e")}, 0, "abcd"},
		{[]act{add("ab"), save, put("xyz")}, -1, "ab"},
		{[]act{add("ab"), save, put("xyz")}, -7, "ab"},
		{[]act{add("ab"), save, put("xyz")}, math.MinInt, "ab"},
		{[]act{add("ab"), save, put("xyz")}, 0, ""},
		{[]act{add("ab"), save, put("xyz")}, 1, "x"},
		{[]act{add("ab"), save, put("xyz")}, 3, "xyz"},
		{[]act{add("ab"), save, put("xyz")}, math.MaxInt, "xyz"},
		{[]act{add("ab"), save, put("")}, -1, "ab"},
		{[]act{add("ab"), save, put("")}, 0, ""},
		{[]act{add("ab"), save, put("")}, 5, ""},
		{[]act{add("ab"), save, put("ab")}, 0, ""},
		{[]act{add("ab"), save, put("ab")}, 1, "a"},
		{[]act{add("ab"), save, put("abc")}, 1, "a"},
		{[]act{add("ab"), save, put("x"), add("yz")}, 2, "xy"},
		{[]act{add("ab"), save, put("x"), add("yz")}, -1, "ab"},
		{[]act{add("ab"), save, add("c"), put("x"), add("yz")}, 2, "xy"},
		{[]act{add("ab"), save, add("c"), put("x"), add("yz")}, -1, "ab"},
		{[]act{add("ab"), save, add("c"), put("xyz"), put("q"), add("r")}, 9, "qr"},
		{[]act{add("ab"), save, put("xyz"), put("q")}, -1, "ab"},
		{[]act{add("ab"), save, put("xyz"), save}, -1, "xyz"},
		{[]act{add("ab"), save, put("xyz"), save}, 1, "xyz"},
		{[]act{add("ab"), save, put("xyz"), save, add("q")}, -1, "xyz"},
		{[]act{add("ab"), save, put("xyz"), save, add("qr")}, 1, "xyzq"},
		{[]act{put("xyz")}, -1, ""},
		{[]act{put("xyz")}, 2, "xy"},
	} {
		d := did(t, 10, c.l...)
		comes(t, "Restart", d.Restart([]int{c.cut}), api.OK)
		if p, e := d.Read(0); string(p) != c.want || e != api.OK {
			t.Errorf("%v, Restart(%d): %q, %d, want %q", c.l, c.cut, p, e, c.want)
		}
		stands(t, d, true, len(c.l))
		comes(t, "Restart", d.Restart(nil), api.OK)
		if p, e := d.Read(0); string(p) != c.want || e != api.OK {
			t.Errorf("%v, Restart(%d), Restart: %q, %d, want %q", c.l, c.cut, p, e, c.want)
		}
	}
}

// P13.2: each track has its own cut; -1, if there is none; those beyond the tracks mean nothing.
func TestCuts(t *testing.T) {
	for _, c := range []struct {
		cuts []int
		want [3]string
	}{
		{nil, [3]string{"a", "b", "c"}},
		{[]int{}, [3]string{"a", "b", "c"}},
		{[]int{2}, [3]string{"axy", "b", "c"}},
		{[]int{0, 1}, [3]string{"a", "z", "c"}},
		{[]int{0, 0}, [3]string{"a", "", "c"}},
		{[]int{-1, 2, 1}, [3]string{"a", "zw", "cv"}},
		{[]int{1, -1, 0}, [3]string{"ax", "b", "c"}},
		{[]int{1, 2, 1, 5, -1, 9, 9, 9, 9, 9}, [3]string{"ax", "zw", "cv"}},
	} {
		d := made(t, 3, 10)
		for i, p := range []string{"a", "b", "c"} {
			d.Append(i, []byte(p))
			d.Sync(i)
		}
		d.Append(0, []byte("xy"))
		d.Write(1, []byte("zw"))
		d.Append(2, []byte("v"))
		comes(t, "Restart", d.Restart(c.cuts), api.OK)
		for i, want := range c.want {
			holds(t, d, i, want)
		}
	}
}

// P13.2: what remains is durable: what comes afterwards is what may be lost, appended or written.
func TestRemainsDurable(t *testing.T) {
	d := did(t, 10, add("ab"), save, put("wxyz"))
	d.Restart([]int{3})
	comes(t, "Append", d.Append(0, []byte("12")), api.OK)
	d.Restart([]int{1})
	holds(t, d, 0, "wxy1")
	comes(t, "Append", d.Append(0, []byte("34")), api.OK)
	d.Restart([]int{-1})
	holds(t, d, 0, "wxy1")
	comes(t, "Write", d.Write(0, []byte("q")), api.OK)
	d.Restart([]int{-1})
	holds(t, d, 0, "wxy1")
	comes(t, "Write", d.Write(0, []byte("q")), api.OK)
	d.Restart([]int{0})
	holds(t, d, 0, "")
	comes(t, "Append", d.Append(0, []byte("5")), api.OK)
	d.Restart([]int{0})
	holds(t, d, 0, "")
	stands(t, d, true, 8)
}

// P13.2: what was lost doesn't come back, whatever is added then.
func TestLostIsLost(t *testing.T) {
	d := did(t, 10, add("ab"), save, add("cdef"))
	d.Restart([]int{1})
	holds(t, d, 0, "abc")
	comes(t, "Append", d.Append(0, []byte("X")), api.OK)
	holds(t, d, 0, "abcX")
	d.Restart([]int{9})
	holds(t, d, 0, "abcX")
	comes(t, "Write", d.Write(0, []byte("pqrstu")), api.OK)
	comes(t, "Append", d.Append(0, []byte("v")), api.OK)
	d.Restart(nil)
	comes(t, "Append", d.Append(0, []byte("Y")), api.OK)
	d.Restart([]int{9})
	holds(t, d, 0, "abcXY")
}

// P13.2: a Restart while the power is on: what was armed is forgotten, what is on stays on.
func TestRestartDisarms(t *testing.T) {
	d := did(t, 10, add("ab"))
	d.Arm(1)
	comes(t, "Restart", d.Restart(nil), api.OK)
	stands(t, d, true, 1)
	comes(t, "Append", d.Append(0, []byte("ab")), api.OK)
	comes(t, "Sync", d.Sync(0), api.OK)
	d.Arm(2)
	comes(t, "Append", d.Append(0, []byte("c")), api.OK)
	d.Restart([]int{1})
	for range 4 {
		comes(t, "Sync", d.Sync(0), api.OK)
	}
	holds(t, d, 0, "abc")
	stands(t, d, true, 8)
}
