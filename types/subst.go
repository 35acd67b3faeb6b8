package types

import (
	"battledore/api"
)

// Subst is what variables stand for.
type Subst struct {
	last   int           // the number of the last variable that was new
	stands map[int]*node // what variables stand for; those that aren't there stand for themselves
	round  int           // how often something was measured
}

// New: nothing is known of any variable; new ones are numbered from the one behind that on.
func New(n int) *Subst {
	return &Subst{last: n, stands: map[int]*node{}}
}

// Fresh: a new variable.
func (s *Subst) Fresh() api.Type {
	if s == nil {
		return api.Type{}
	}
	s.last++
	return api.Type{Var: s.last}
}

// Apply: a type, all variables replaced by what they stand for.
func (s *Subst) Apply(t api.Type) api.Type {
	if s == nil {
		return api.Type{}
	}
	return built(made(t), func(n *node) (api.Type, []*node) {
		n = s.root(n)
		return api.Type{Name: n.name, Var: n.number}, n.kids
	})
}

// Unify makes two types one; false: they can't be.
func (s *Subst) Unify(a, b api.Type) bool {
	if s == nil {
		return false
	}
	x, y := made(a), made(b)
	if s.merge(x, y) {
		if _, ok := s.measure(s.root(x), 1); ok {
			return true
		}
	}
	// a variable may stand for what it occurs in by now, and Apply must come to an end
	s.stands = map[int]*node{}
	return false
}

// Open: a scheme's type, with a new variable for each of its own.
func (s *Subst) Open(c api.Scheme) api.Type {
	if s == nil {
		return api.Type{}
	}
	numbers := map[int]int{}
	return renamed(c.T, func(v int) int {
		switch {
		case v < 0:
			return -v
		case v == 0 || v > c.N:
			return v
		}
		if _, ok := numbers[v]; !ok {
			numbers[v] = s.Fresh().Var
		}
		return numbers[v]
	})
}

// Size: how many parts a type has, all variables replaced by what they stand for, itself among them, up to a most.
func (s *Subst) Size(t api.Type, most int) int {
	if s == nil {
		return 0
	}
	if n := Size(t, most); n >= most {
		return n
	}
	n, _ := s.measure(s.root(made(t)), most)
	return n
}
