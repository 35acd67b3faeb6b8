package drum_test

import (
	"math"
	"testing"

	"battledore/api"
	"battledore/drum"
)

// P13.2, P1: no drum.
func TestNilDrum(t *testing.T) {
	var d *drum.Drum
	stands(t, d, false, 0)
	if d.Tracks() != 0 || d.Most() != 0 {
		t.Errorf("Tracks = %d, Most = %d", d.Tracks(), d.Most())
	}
	for _, i := range []int{-1, 0, 1, math.MaxInt, math.MinInt} {
		p, e := d.Read(i)
		comes(t, "Read", e, api.ErrNone)
		if len(p) != 0 {
			t.Errorf("%q is read", p)
		}
		comes(t, "Append", d.Append(i, []byte("ab")), api.ErrNone)
		comes(t, "Append", d.Append(i, make([]byte, api.MaxTrack+1)), api.ErrNone)
		comes(t, "Write", d.Write(i, nil), api.ErrNone)
		comes(t, "Sync", d.Sync(i), api.ErrNone)
		comes(t, "Arm", d.Arm(i), api.ErrNone)
		comes(t, "Restart", d.Restart([]int{i}), api.ErrNone)
	}
	comes(t, "Restart", d.Restart(nil), api.ErrNone)
}

// P13.1: tracks that there aren't; ErrArg ahead of ErrFull.
func TestNoTrack(t *testing.T) {
	d := did(t, 4, put("ab"))
	for _, i := range []int{-1, 2, 3, math.MaxInt, math.MinInt} {
		p, e := d.Read(i)
		comes(t, "Read", e, api.ErrArg)
		if len(p) != 0 {
			t.Errorf("%q is read", p)
		}
		comes(t, "Append", d.Append(i, nil), api.ErrArg)
		comes(t, "Append", d.Append(i, make([]byte, 5)), api.ErrArg)
		comes(t, "Write", d.Write(i, nil), api.ErrArg)
		comes(t, "Write", d.Write(i, make([]byte, 5)), api.ErrArg)
		comes(t, "Sync", d.Sync(i), api.ErrArg)
	}
	stands(t, d, true, 1)
	holds(t, d, 0, "ab")
	holds(t, d, 1, "")
}
