// Package turtle is layer 2, turtle graphics: see shared/doc/02-turtle.md.
package turtle

import (
	"battledore/api"
)

// Place is where the turtle stands.
type Place struct {
	X, Y int64
}

// Far is how far the turtle may go in one move.
const Far = 1000000

// ahead is the direction that the turtle faces at first; left turns a direction by 90 degrees. Both are whole, and so is all that the turtle comes to: its places are at most MaxMoves*Far away, and a float64 is exact there.
const (
	ahead = 1i
	left  = 1i
)

// Path: the places at which the turtle has stood, the first one ahead.
func Path(l []api.Move) ([]Place, api.Errno) {
	path, _, e := walk(l)
	return path, e
}

// Look: where it looks at the end: a step ahead.
func Look(l []api.Move) (Place, api.Errno) {
	_, look, e := walk(l)
	return place(look), e
}

// Box: the least rectangle in which it has been: its lower left and its upper right corner.
func Box(l []api.Move) (Place, Place, api.Errno) {
	path, _, e := walk(l)
	low, high := Place{}, Place{} // the turtle begins there, whatever it does then
	for _, p := range path {
		low = Place{min(low.X, p.X), min(low.Y, p.Y)}
		high = Place{max(high.X, p.X), max(high.Y, p.Y)}
	}
	return low, high, e
}

// Closed: is it where it was at first?
func Closed(l []api.Move) bool {
	path, _, e := walk(l)
	return e == api.OK && path[0] == path[len(path)-1]
}

// Area: twice the area about which it has gone, against the clock, if it goes back straight to where it was.
func Area(l []api.Move) (int64, api.Errno) {
	path, _, e := walk(l)
	area := int64(0)
	for i, p := range path {
		q := path[(i+1)%len(path)]
		area += p.X*q.Y - q.X*p.Y
	}
	return area, e
}

// walk: the places of the turtle, and the direction that it faces at the end.
func walk(l []api.Move) ([]Place, complex128, api.Errno) {
	if e := check(l); e != api.OK {
		return nil, 0, e
	}
	at, look := complex128(0), complex128(ahead)
	path := []Place{place(at)}
	for _, m := range l {
		if m.Turn {
			look = turned(look, m.N)
			continue
		}
		at += look * complex(float64(m.N), 0)
		path = append(path, place(at))
	}
	return path, look, api.OK
}

// check is asked of all moves ahead of the first one, so that a place is never too far for a float64.
func check(l []api.Move) api.Errno {
	if len(l) > api.MaxMoves {
		return api.ErrLong
	}
	for _, m := range l {
		if !m.Turn && (m.N < -Far || m.N > Far) {
			return api.ErrArg
		}
	}
	return api.OK
}

// turned: a direction, turned to the left n times; four times are none, and so three to the left are one to the right.
func turned(look complex128, n int64) complex128 {
	for range (n%4 + 4) % 4 {
		look *= left
	}
	return look
}

// place: where a complex number is.
func place(z complex128) Place {
	return Place{X: int64(real(z)), Y: int64(imag(z))}
}
