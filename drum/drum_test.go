package drum_test

import (
	"bytes"
	"math"
	"testing"

	"battledore/api"
	"battledore/drum"
)

// P13.1: New, Tracks and Most, at the limits and beyond them.
func TestNew(t *testing.T) {
	for _, c := range []struct {
		tracks, most int
		want         api.Errno
	}{
		{1, 1, api.OK},
		{2, 10, api.OK},
		{api.MaxTracks, api.MaxTrack, api.OK},
		{1, api.MaxTrack, api.OK},
		{api.MaxTracks, 1, api.OK},
		{0, 1, api.ErrArg},
		{1, 0, api.ErrArg},
		{0, 0, api.ErrArg},
		{-1, 1, api.ErrArg},
		{1, -1, api.ErrArg},
		{api.MaxTracks + 1, 1, api.ErrArg},
		{1, api.MaxTrack + 1, api.ErrArg},
		{math.MaxInt, 1, api.ErrArg},
		{1, math.MaxInt, api.ErrArg},
		{math.MinInt, math.MinInt, api.ErrArg},
	} {
		d, e := drum.New(c.tracks, c.most)
		if e != c.want || (d != nil) != (c.want == api.OK) {
			t.Errorf("New(%d, %d) = %v, %d", c.tracks, c.most, d, e)
			continue
		}
		if d == nil {
			continue
		}
		if d.Tracks() != c.tracks || d.Most() != c.most {
			t.Errorf("Tracks = %d, Most = %d, want %d, %d", d.Tracks(), d.Most(), c.tracks, c.most)
		}
		stands(t, d, true, 0)
		for i := range c.tracks {
			holds(t, d, i, "")
		}
	}
}

// P13.1: Append and Write, each in its own track.
func TestBytes(t *testing.T) {
	d := made(t, 3, 10)
	comes(t, "Append", d.Append(0, []byte("ab")), api.OK)
	comes(t, "Append", d.Append(0, []byte("cd")), api.OK)
	comes(t, "Write", d.Write(2, []byte("xyz")), api.OK)
	comes(t, "Append", d.Append(2, []byte("q")), api.OK)
	holds(t, d, 0, "abcd")
	holds(t, d, 1, "")
	holds(t, d, 2, "xyzq")
	comes(t, "Write", d.Write(0, []byte("e")), api.OK)
	comes(t, "Append", d.Append(0, nil), api.OK)
	comes(t, "Write", d.Write(2, nil), api.OK)
	comes(t, "Sync", d.Sync(1), api.OK)
	holds(t, d, 0, "e")
	holds(t, d, 2, "")
	stands(t, d, true, 8)
	if d.Tracks() != 3 || d.Most() != 10 {
		t.Errorf("Tracks = %d, Most = %d", d.Tracks(), d.Most())
	}
}

// P13.1: ErrFull: as many bytes as may be, and one more, changes nothing, and isn't counted.
func TestFull(t *testing.T) {
	d := did(t, 4, put("abcd"), put("abc"), add("d"), add(""))
	stands(t, d, true, 4)
	comes(t, "Append", d.Append(0, []byte("e")), api.ErrFull)
	comes(t, "Append", d.Append(0, make([]byte, 5)), api.ErrFull)
	comes(t, "Write", d.Write(0, []byte("abcde")), api.ErrFull)
	comes(t, "Write", d.Write(1, make([]byte, 5)), api.ErrFull)
	comes(t, "Append", d.Append(1, make([]byte, 5)), api.ErrFull)
	holds(t, d, 0, "abcd")
	holds(t, d, 1, "")
	stands(t, d, true, 4)
	comes(t, "Write", d.Write(0, []byte("efgh")), api.OK)
	holds(t, d, 0, "efgh")
}

// P13.1: ErrFull ends with the bytes that are there, not with those that are durable.
func TestFullAfterLoss(t *testing.T) {
	d := did(t, 4, put("ab"), save, add("cd"))
	comes(t, "Append", d.Append(0, []byte("e")), api.ErrFull)
	comes(t, "Restart", d.Restart([]int{1}), api.OK)
	comes(t, "Append", d.Append(0, []byte("ef")), api.ErrFull)
	comes(t, "Append", d.Append(0, []byte("e")), api.OK)
	comes(t, "Write", d.Write(0, []byte("z")), api.OK)
	comes(t, "Append", d.Append(0, []byte("xyz")), api.OK)
	holds(t, d, 0, "zxyz")
}

// P13.1, P13.2: a track of the greatest size, filled byte by byte, each durable at once; and again after a loss.
func TestGreatTrack(t *testing.T) {
	d := made(t, 1, api.MaxTrack)
	for i := range api.MaxTrack {
		if e := d.Append(0, []byte{byte(i)}); e != api.OK {
			t.Fatalf("Append %d: %d", i, e)
		}
		d.Sync(0)
	}
	comes(t, "Append", d.Append(0, []byte{1}), api.ErrFull)
	comes(t, "Write", d.Write(0, []byte{9}), api.OK)
	comes(t, "Restart", d.Restart(nil), api.OK)
	p, e := d.Read(0)
	if len(p) != api.MaxTrack || e != api.OK || p[0] != 0 || p[api.MaxTrack-1] != 255 {
		t.Errorf("%d bytes, %d", len(p), e)
	}
	great := bytes.Repeat([]byte{7}, api.MaxTrack)
	comes(t, "Write", d.Write(0, great), api.OK)
	comes(t, "Write", d.Write(0, append(great, 7)), api.ErrFull)
	holds(t, d, 0, string(great))
	stands(t, d, true, 2*api.MaxTrack+2)
}
