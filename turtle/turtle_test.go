package turtle_test

import (
	"math"
	"math/big"
	"math/rand"
	"slices"
	"testing"

	"battledore/api"
	"battledore/turtle"
)

type moves = []api.Move
type places = []turtle.Place

func step(n int64) api.Move { return api.Move{N: n} }
func turn(n int64) api.Move { return api.Move{Turn: true, N: n} }

// P2.1: Path.
func TestPath(t *testing.T) {
	for _, c := range []struct {
		l    moves
		want places
	}{
		{nil, places{{0, 0}}},
		{moves{}, places{{0, 0}}},
		{moves{turn(1)}, places{{0, 0}}},
		{moves{step(0)}, places{{0, 0}, {0, 0}}},
		{moves{step(3)}, places{{0, 0}, {0, 3}}},
		{moves{step(-3)}, places{{0, 0}, {0, -3}}},
		{moves{step(3), turn(1), step(4)}, places{{0, 0}, {0, 3}, {-4, 3}}},
		{moves{step(3), turn(-1), step(4)}, places{{0, 0}, {0, 3}, {4, 3}}},
		{moves{step(3), turn(2), step(4)}, places{{0, 0}, {0, 3}, {0, -1}}},
		{moves{turn(1), turn(1), turn(1), step(-4)}, places{{0, 0}, {-4, 0}}},
		{moves{turn(0), step(1), step(0), step(1)}, places{{0, 0}, {0, 1}, {0, 1}, {0, 2}}},
		{moves{step(turtle.Far), step(-turtle.Far)}, places{{0, 0}, {0, turtle.Far}, {0, 0}}},
	} {
		got, e := turtle.Path(c.l)
		if e != api.OK || !slices.Equal(got, c.want) {
			t.Errorf("Path(%v) = %v, %d, want %v", c.l, got, e, c.want)
		}
	}
}

// P2.1: Look, also for turns by as much as a number can say.
func TestLook(t *testing.T) {
	for _, c := range []struct {
		l    moves
		want turtle.Place
	}{
		{nil, turtle.Place{X: 0, Y: 1}},
		{moves{step(5)}, turtle.Place{X: 0, Y: 1}},
		{moves{step(-5)}, turtle.Place{X: 0, Y: 1}},
		{moves{turn(0)}, turtle.Place{X: 0, Y: 1}},
		{moves{turn(1)}, turtle.Place{X: -1, Y: 0}},
		{moves{turn(2)}, turtle.Place{X: 0, Y: -1}},
		{moves{turn(3)}, turtle.Place{X: 1, Y: 0}},
		{moves{turn(4)}, turtle.Place{X: 0, Y: 1}},
		{moves{turn(5)}, turtle.Place{X: -1, Y: 0}},
		{moves{turn(-1)}, turtle.Place{X: 1, Y: 0}},
		{moves{turn(-2)}, turtle.Place{X: 0, Y: -1}},
		{moves{turn(-3)}, turtle.Place{X: -1, Y: 0}},
		{moves{turn(-4)}, turtle.Place{X: 0, Y: 1}},
		{moves{turn(-7)}, turtle.Place{X: -1, Y: 0}},
		{moves{turn(math.MaxInt64)}, turtle.Place{X: 1, Y: 0}},
		{moves{turn(math.MinInt64)}, turtle.Place{X: 0, Y: 1}},
		{moves{turn(math.MinInt64 + 1)}, turtle.Place{X: -1, Y: 0}},
		{moves{turn(1), step(9), turn(1)}, turtle.Place{X: 0, Y: -1}},
		{moves{turn(1), turn(-1)}, turtle.Place{X: 0, Y: 1}},
	} {
		got, e := turtle.Look(c.l)
		if e != api.OK || got != c.want {
			t.Errorf("Look(%v) = %v, %d, want %v", c.l, got, e, c.want)
		}
	}
}

// P2.1: Box.
func TestBox(t *testing.T) {
	for _, c := range []struct {
		l         moves
		low, high turtle.Place
	}{
		{nil, turtle.Place{}, turtle.Place{}},
		{moves{turn(3)}, turtle.Place{}, turtle.Place{}},
		{moves{step(3)}, turtle.Place{}, turtle.Place{X: 0, Y: 3}},
		{moves{step(-3)}, turtle.Place{X: 0, Y: -3}, turtle.Place{}},
		{moves{step(3), turn(1), step(4)}, turtle.Place{X: -4, Y: 0}, turtle.Place{X: 0, Y: 3}},
		{moves{step(3), turn(-1), step(4), turn(-1), step(9)}, turtle.Place{X: 0, Y: -6}, turtle.Place{X: 4, Y: 3}},
		{moves{turn(1), step(5), step(-7), step(2)}, turtle.Place{X: -5, Y: 0}, turtle.Place{X: 2, Y: 0}},
	} {
		low, high, e := turtle.Box(c.l)
		if e != api.OK || low != c.low || high != c.high {
			t.Errorf("Box(%v) = %v, %v, %d, want %v, %v", c.l, low, high, e, c.low, c.high)
		}
	}
}

// P2.1: Closed.
func TestClosed(t *testing.T) {
	for _, c := range []struct {
		l    moves
		want bool
	}{
		{nil, true},
		{moves{turn(1)}, true},
		{moves{step(0)}, true},
		{moves{step(1)}, false},
		{moves{step(1), step(-1)}, true},
		{moves{step(1), turn(1), step(-1)}, false},
		{moves{turn(1), step(1)}, false},
		{moves{step(2), turn(1), step(2), turn(1), step(2), turn(1), step(2)}, true},
		{moves{step(2), turn(1), step(2), turn(1), step(2), turn(1), step(1)}, false},
		{moves{step(1), step(-1), step(1)}, false},
	} {
		if got := turtle.Closed(c.l); got != c.want {
			t.Errorf("Closed(%v) = %v", c.l, got)
		}
	}
}

// P2.1: Area: counterclockwise is above 0, an open path is closed by a straight line.
func TestArea(t *testing.T) {
	for _, c := range []struct {
		l    moves
		want int64
	}{
		{nil, 0},
		{moves{step(5)}, 0},
		{moves{step(5), step(-9)}, 0},
		{moves{step(2), turn(1), step(2), turn(1), step(2), turn(1), step(2)}, 8},
		{moves{step(2), turn(-1), step(2), turn(-1), step(2), turn(-1), step(2)}, -8},
		{moves{step(2), turn(1), step(3), turn(1), step(2)}, 12},
		{moves{step(3), turn(1), step(4)}, 12},
		{moves{step(3), turn(-1), step(4)}, -12},
		{moves{step(1), turn(1), step(1), turn(1), step(2), turn(-1), step(-2), turn(1), step(-1), turn(1), step(1)}, 6},
		{moves{step(2), turn(1), step(2), turn(1), step(2), turn(1), step(2), step(3), turn(-1), step(3), turn(-1), step(3), turn(-1), step(3)}, -10},
		{moves{step(2), turn(1), step(2), turn(1), step(2), turn(1), step(2), turn(1), step(2), turn(1), step(2), turn(1), step(2), turn(1), step(2)}, 16},
	} {
		got, e := turtle.Area(c.l)
		if e != api.OK || got != c.want {
			t.Errorf("Area(%v) = %d, %d, want %d", c.l, got, e, c.want)
		}
	}
}

// failing asks that all functions return that error, and nothing beside it.
func failing(t *testing.T, what string, l moves, want api.Errno) {
	t.Helper()
	if p, e := turtle.Path(l); e != want || len(p) != 0 {
		t.Errorf("%s: Path = %d places, %d", what, len(p), e)
	}
	if p, e := turtle.Look(l); e != want || p != (turtle.Place{}) {
		t.Errorf("%s: Look = %v, %d", what, p, e)
	}
	if p, q, e := turtle.Box(l); e != want || p != (turtle.Place{}) || q != (turtle.Place{}) {
		t.Errorf("%s: Box = %v, %v, %d", what, p, q, e)
	}
	if n, e := turtle.Area(l); e != want || n != 0 {
		t.Errorf("%s: Area = %d, %d", what, n, e)
	}
	if turtle.Closed(l) {
		t.Errorf("%s: Closed", what)
	}
}

// valid asks that no function returns an error.
func valid(t *testing.T, what string, l moves) {
	t.Helper()
	_, e1 := turtle.Path(l)
	_, e2 := turtle.Look(l)
	_, _, e3 := turtle.Box(l)
	_, e4 := turtle.Area(l)
	if e1 != api.OK || e2 != api.OK || e3 != api.OK || e4 != api.OK {
		t.Errorf("%s: %d, %d, %d, %d", what, e1, e2, e3, e4)
	}
}

// P2.1: ErrArg.
func TestTooFar(t *testing.T) {
	for _, n := range []int64{turtle.Far + 1, -turtle.Far - 1, math.MaxInt64, math.MinInt64} {
		failing(t, "a far step", moves{step(n)}, api.ErrArg)
		failing(t, "a far step at last", moves{step(1), turn(1), step(n)}, api.ErrArg)
		failing(t, "a far step, and back", moves{step(n), step(-n)}, api.ErrArg)
		valid(t, "a far turn", moves{turn(n), step(1)})
	}
	valid(t, "just far enough", moves{step(turtle.Far), step(-turtle.Far), turn(turtle.Far + 1)})
}

// P2.1: ErrLong, ahead of ErrArg; turns are counted, too.
func TestTooLong(t *testing.T) {
	steps, turns := make(moves, api.MaxMoves), make(moves, api.MaxMoves)
	for i := range api.MaxMoves {
		steps[i], turns[i] = step(turtle.Far), turn(1)
	}
	valid(t, "as many steps as may be", steps)
	valid(t, "as many turns as may be", turns)
	failing(t, "one step more", append(slices.Clone(steps), step(0)), api.ErrLong)
	failing(t, "one turn more", append(slices.Clone(turns), turn(0)), api.ErrLong)
	failing(t, "one step more, too far", append(slices.Clone(steps), step(math.MaxInt64)), api.ErrLong)
	if _, high, _ := turtle.Box(steps); high != (turtle.Place{X: 0, Y: api.MaxMoves * turtle.Far}) {
		t.Errorf("the farthest place: %v", high)
	}
	if p, _ := turtle.Path(steps); len(p) != api.MaxMoves+1 {
		t.Errorf("%d places", len(p))
	}
	if p, _ := turtle.Path(turns); len(p) != 1 {
		t.Errorf("%d places", len(p))
	}
}

// model walks with integers: the places, and the direction at the end.
func model(l moves) (places, turtle.Place) {
	at, look := turtle.Place{}, turtle.Place{X: 0, Y: 1}
	out := places{at}
	for _, m := range l {
		if m.Turn {
			for n := m.N % 4; n != 0; {
				if n > 0 {
					look, n = turtle.Place{X: -look.Y, Y: look.X}, n-1
				} else {
					look, n = turtle.Place{X: look.Y, Y: -look.X}, n+1
				}
			}
			continue
		}
		at = turtle.Place{X: at.X + m.N*look.X, Y: at.Y + m.N*look.Y}
		out = append(out, at)
	}
	return out, look
}

// area is twice the area of a path, in numbers that have no end.
func area(p places) *big.Int {
	sum := new(big.Int)
	for i := range p {
		a, b := p[i], p[(i+1)%len(p)]
		sum.Add(sum, new(big.Int).Mul(big.NewInt(a.X), big.NewInt(b.Y)))
		sum.Sub(sum, new(big.Int).Mul(big.NewInt(b.X), big.NewInt(a.Y)))
	}
	return sum
}

// hold asks that all functions say of these moves what the model says.
func hold(t *testing.T, l moves) {
	t.Helper()
	path, look := model(l)
	if p, e := turtle.Path(l); e != api.OK || !slices.Equal(p, path) {
		t.Fatalf("Path(%v) = %v, %d", l, p, e)
	}
	if p, e := turtle.Look(l); e != api.OK || p != look {
		t.Fatalf("Look(%v) = %v, %d", l, p, e)
	}
	low, high := path[0], path[0]
	for _, p := range path {
		low = turtle.Place{X: min(low.X, p.X), Y: min(low.Y, p.Y)}
		high = turtle.Place{X: max(high.X, p.X), Y: max(high.Y, p.Y)}
	}
	if a, b, e := turtle.Box(l); e != api.OK || a != low || b != high {
		t.Fatalf("Box(%v) = %v, %v, %d", l, a, b, e)
	}
	if got := turtle.Closed(l); got != (path[len(path)-1] == path[0]) {
		t.Fatalf("Closed(%v) = %v", l, got)
	}
	if n, e := turtle.Area(l); e != api.OK || big.NewInt(n).Cmp(area(path)) != 0 {
		t.Fatalf("Area(%v) = %d, %d, want %v", l, n, e, area(path))
	}
}

// P2.1: all functions held against a model of integers, for short walks and for the longest and farthest ones.
func TestLikeModel(t *testing.T) {
	rnd := rand.New(rand.NewSource(6))
	for i := range 3000 {
		l := make(moves, rnd.Intn(12))
		far := int64(3)
		if i%10 == 0 {
			l, far = make(moves, api.MaxMoves), turtle.Far
		}
		for j := range l {
			if l[j] = step(rnd.Int63n(2*far+1) - far); rnd.Intn(2) == 0 {
				l[j] = turn(int64(rnd.Uint64()))
			}
		}
		hold(t, l)
	}
	var ring moves // the greatest rectangle that can be gone about
	for i := range 996 {
		if i > 0 && i%249 == 0 {
			ring = append(ring, turn(1))
		}
		ring = append(ring, step(turtle.Far))
	}
	hold(t, ring)
	if n, _ := turtle.Area(ring); n != 2*249*249*turtle.Far*turtle.Far {
		t.Errorf("Area of the greatest ring = %d", n)
	}
}

// The rule about memory, and P2: moves stay as they are, a path is new, and the same moves come to the same.
func TestMemory(t *testing.T) {
	room := moves{step(3), turn(1), step(4), step(7)}
	l := room[:3]
	a, _ := turtle.Path(l)
	b, _ := turtle.Path(l)
	turtle.Look(l)
	turtle.Box(l)
	turtle.Area(l)
	turtle.Closed(l)
	if !slices.Equal(room, moves{step(3), turn(1), step(4), step(7)}) {
		t.Errorf("the moves became %v", room)
	}
	a = a[:cap(a)]
	for i := range a {
		a[i] = turtle.Place{X: 9, Y: 9}
	}
	c, _ := turtle.Path(l)
	want := places{{0, 0}, {0, 3}, {-4, 3}}
	if !slices.Equal(b, want) || !slices.Equal(c, want) {
		t.Errorf("Path = %v, then %v", b, c)
	}
}
