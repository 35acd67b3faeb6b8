package drum_test

import (
	"testing"

	"battledore/api"
	"battledore/drum"
)

// made: a drum that there must be.
func made(t *testing.T, tracks, most int) *drum.Drum {
	t.Helper()
	d, e := drum.New(tracks, most)
	if d == nil || e != api.OK {
		t.Fatalf("New(%d, %d): %v, %d", tracks, most, d, e)
	}
	return d
}

// comes asks that a call returned that error.
func comes(t *testing.T, what string, e, want api.Errno) {
	t.Helper()
	if e != want {
		t.Errorf("%s: %d, want %d", what, e, want)
	}
}

// holds asks that a track has these bytes.
func holds(t *testing.T, d *drum.Drum, i int, want string) {
	t.Helper()
	if p, e := d.Read(i); string(p) != want || e != api.OK {
		t.Errorf("Read(%d) = %q, %d, want %q", i, p, e, want)
	}
}

// stands asks whether the power is on, and how many operations there were.
func stands(t *testing.T, d *drum.Drum, on bool, ops int) {
	t.Helper()
	if d.On() != on || d.Ops() != ops {
		t.Errorf("On = %v, Ops = %d, want %v, %d", d.On(), d.Ops(), on, ops)
	}
}

// act is a call: its name, what it appends or writes, the number of its track.
type act struct {
	name  string
	bytes string
	track int
}

func do(d *drum.Drum, a act) api.Errno {
	switch a.name {
	case "append":
		return d.Append(a.track, []byte(a.bytes))
	case "write":
		return d.Write(a.track, []byte(a.bytes))
	}
	return d.Sync(a.track)
}

func add(p string) act { return act{name: "append", bytes: p} }
func put(p string) act { return act{name: "write", bytes: p} }

var save = act{name: "sync"}

// did: a drum in which these calls were made; none of them may fail.
func did(t *testing.T, most int, l ...act) *drum.Drum {
	t.Helper()
	d := made(t, 2, most)
	for _, a := range l {
		comes(t, a.name, do(d, a), api.OK)
	}
	return d
}
