package machine

import (
	"testing"

	"battledore/api"
	"battledore/heap"
)

// P1: more on the stacks than there can be room for. (From outside it would take a gigabyte to come there.)
func TestGreatStacks(t *testing.T) {
	for _, c := range []struct {
		values, tries int
		want          api.Errno
	}{
		{0, 0, api.OK}, {1000, 1000, api.OK}, {maxStack + 1, 0, api.ErrMem}, {0, maxStack/3 + 1, api.ErrMem},
	} {
		r := &running{stack: make([]heap.Word, c.values), tries: make([]try, c.tries)}
		if e := r.enter(3, heap.Num(1), heap.Num(2)); e != c.want || e == api.OK && len(r.frames) != 1 {
			t.Errorf("%d values, %d tries: %d", c.values, c.tries, e)
		}
	}
	if maxStack <= (api.MaxFuel+1)*api.MaxSource {
		t.Error("cells could come there")
	}
}
