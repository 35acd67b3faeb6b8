package cell_test

import (
	"bytes"
	"slices"
	"strconv"
	"strings"
	"testing"
	"time"

	"battledore/api"
	"battledore/cell"
	"battledore/image"
)

// made: a new world.
func made(t *testing.T, quota int) image.World {
	t.Helper()
	x, e := image.New(quota)
	if e != api.OK || x.M == nil {
		t.Fatalf("New(%d): %d", quota, e)
	}
	return x
}

// told: all of an outcome, as a text.
func told(o api.Outcome) string {
	var l []string
	for _, b := range o.Binds {
		l = append(l, b.Name+" : "+b.Type+" = "+b.Value)
	}
	if o.E != api.OK {
		l = append(l, "E"+strconv.Itoa(int(o.E)))
	}
	if o.At != 0 {
		l = append(l, "at "+strconv.Itoa(o.At))
	}
	if o.Raise != "" {
		l = append(l, "raised "+o.Raise)
	}
	if o.Out != "" {
		l = append(l, "out "+o.Out)
	}
	for _, m := range o.Moves {
		l = append(l, map[bool]string{false: "move ", true: "turn "}[m.Turn]+strconv.FormatInt(m.N, 10))
	}
	return strings.Join(l, "; ")
}

// enough is the fuel where it doesn't matter.
const enough = api.MaxFuel

// after: a world after some cells, all of which come to no error.
func after(t *testing.T, x image.World, l ...string) image.World {
	t.Helper()
	for _, s := range l {
		y, o := cell.Run(x, s, enough)
		if o.E != api.OK {
			t.Fatalf("%s: %s", s, told(o))
		}
		x = y
	}
	return x
}

// mustTell: a cell comes to that outcome, and leaves the world that it was run in as it was; the world after it.
func mustTell(t *testing.T, x image.World, s string, fuel int, want string) image.World {
	t.Helper()
	before := image.Save(x)
	words := x.M.Heap().Words()
	y, o := cell.Run(x, s, fuel)
	if got := told(o); got != want {
		t.Errorf("%.300s: %.300s, not %.300s", s, got, want)
	}
	if !bytes.Equal(image.Save(x), before) || !slices.Equal(x.M.Heap().Words(), words) {
		t.Errorf("%.300s: the world that it was run in is another one", s)
	}
	if o.E != api.OK && !bytes.Equal(image.Save(y), before) {
		t.Errorf("%.300s: the world after the error is another one", s)
	}
	return y
}

// value: what the last declaration of a cell comes to.
func value(t *testing.T, x image.World, s string) string {
	t.Helper()
	_, o := cell.Run(x, s, enough)
	if o.E != api.OK || len(o.Binds) == 0 {
		t.Errorf("%.300s: %s", s, told(o))
		return ""
	}
	return o.Binds[len(o.Binds)-1].Value
}

// soon: it must come to an end.
func soon(t *testing.T, what string, run func()) {
	t.Helper()
	done := make(chan struct{})
	go func() {
		defer close(done) // also if it gives up
		run()
	}()
	select {
	case <-done:
	case <-time.After(time.Minute):
		t.Fatalf("%s: no end", what)
	}
}
