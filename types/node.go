package types

import (
	"battledore/api"
)

// node is a type, or a part of one, while types are compared. Of nodes that were found to be the same all lead to one, so that what has very many parts needs few nodes, and none is gone through again.
type node struct {
	name   string
	number int // of a variable
	kids   []*node
	same   *node // where this node leads, unless it is a variable; nil: nowhere
	round  int   // the last measuring that came here
	size   int   // what that found; 0 while it is at its kids
}

// draft is a node that is to become that of a type.
type draft struct {
	n *node
	t api.Type
}

// made: the node of a type.
func made(t api.Type) *node {
	top := &node{}
	todo := []draft{{top, t}}
	for len(todo) > 0 {
		d := pop(&todo)
		d.n.name = d.t.Name
		if d.t.Name == "" {
			d.n.number = d.t.Var
		}
		for _, t := range kids(d.t) {
			k := &node{}
			d.n.kids = append(d.n.kids, k)
			todo = append(todo, draft{k, t})
		}
	}
	return top
}

// next: the node to which n leads; nil if it leads nowhere.
func (s *Subst) next(n *node) *node {
	if n.name == "" {
		return s.stands[n.number]
	}
	return n.same
}

// lead makes n, which leads nowhere, or elsewhere, lead to another node.
func (s *Subst) lead(n, to *node) {
	if n.name == "" {
		s.stands[n.number] = to
	} else {
		n.same = to
	}
}

// root: the node to which n leads in the end. All on the way skip the next one from now on, lest the way becomes long.
func (s *Subst) root(n *node) *node {
	for {
		m := s.next(n)
		if m == nil {
			return n
		}
		if far := s.next(m); far != nil {
			s.lead(n, far)
		}
		n = m
	}
}

// merge makes two nodes, and their kids, lead to the same ones; false: they can't. What comes of it may contain itself.
func (s *Subst) merge(a, b *node) bool {
	todo := []pair[*node]{{a, b}}
	for len(todo) > 0 {
		p := pop(&todo)
		a, b := s.root(p.a), s.root(p.b)
		switch {
		case a == b:
		case a.name == "" && b.name == "" && a.number == b.number:
		case a.name == "":
			s.lead(a, b)
		case b.name == "":
			s.lead(b, a)
		case a.name != b.name || len(a.kids) != len(b.kids):
			return false
		default:
			todo = pushPairs(todo, a.kids, b.kids)
			if a.round > 0 { // an older node doesn't lead to a newer one, lest it keeps that
				a, b = b, a
			}
			s.lead(a, b)
		}
	}
	return true
}

// measure: how many parts there are under a root, up to a most of 1 or more; false: it contains itself.
func (s *Subst) measure(top *node, most int) (int, bool) {
	s.round++
	todo := []*node{top}
	for len(todo) > 0 {
		n := todo[len(todo)-1]
		if n.round == s.round {
			if n.size == 0 { // otherwise it has been waiting more than once
				n.size = s.total(n, most)
			}
			pop(&todo)
			continue
		}
		n.round, n.size = s.round, 0
		for _, k := range n.kids {
			k = s.root(k)
			if k.round < s.round {
				todo = append(todo, k)
			} else if k.size == 0 {
				return 0, false
			}
		}
	}
	return top.size, true
}

// total: what the sizes of a node's kids, and itself, come to, up to a most.
func (s *Subst) total(n *node, most int) int {
	sum := 1
	for _, k := range n.kids {
		sum += min(s.root(k).size, most-sum)
	}
	return sum
}
