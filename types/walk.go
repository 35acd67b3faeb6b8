package types

import (
	"iter"
	"slices"

	"battledore/api"
)

// What is still to be done waits on stacks, and not in calls: a type may be nested deeper than calls may be.

// pair is two things that are to be the same.
type pair[T any] struct {
	a, b T
}

// spot is a place in a type that is being built, and what it is built from.
type spot[T any] struct {
	at   *api.Type
	from T
}

// pop takes the last one off a stack that is not empty.
func pop[T any](stack *[]T) T {
	l := *stack
	*stack = l[:len(l)-1]
	return l[len(l)-1]
}

// pushPairs: a stack with each of a on it, with that of b, the first ones on top; b is as long as a.
func pushPairs[T any](stack []pair[T], a, b []T) []pair[T] {
	for i, x := range slices.Backward(a) {
		stack = append(stack, pair[T]{x, b[i]})
	}
	return stack
}

// kids: those of a type; a variable has none.
func kids(t api.Type) []api.Type {
	if t.Name == "" {
		return nil
	}
	return t.Kids
}

// parts visits a type, its kids, theirs .., from the left.
func parts(t api.Type) iter.Seq[api.Type] {
	return func(yield func(api.Type) bool) {
		todo := []api.Type{t}
		for len(todo) > 0 {
			p := pop(&todo)
			if !yield(p) {
				return
			}
			for _, k := range slices.Backward(kids(p)) {
				todo = append(todo, k)
			}
		}
	}
}

// built: the type that is made from top, where look tells of what a part is made from its name, or its number, and what its kids are made from. It is asked from the left.
func built[T any](top T, look func(T) (api.Type, []T)) api.Type {
	var out api.Type
	todo := []spot[T]{{&out, top}}
	for len(todo) > 0 {
		s := pop(&todo)
		head, from := look(s.from)
		if len(from) > 0 {
			head.Kids = make([]api.Type, len(from))
		}
		*s.at = head
		for i, x := range slices.Backward(from) {
			todo = append(todo, spot[T]{&head.Kids[i], x})
		}
	}
	return out
}

// renamed: a type with other numbers of its variables.
func renamed(t api.Type, number func(int) int) api.Type {
	return built(t, func(p api.Type) (api.Type, []api.Type) {
		if p.Name == "" {
			return api.Type{Var: number(p.Var)}, nil
		}
		return api.Type{Name: p.Name}, p.Kids
	})
}
