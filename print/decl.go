package print

import (
	"slices"

	"battledore/api"
)

func decl(d api.Decl) part {
	return part{parts: func() []part { return declParts(d) }}
}

func declParts(d api.Decl) []part {
	switch d.Kind {
	case api.DExpr:
		return []part{expr(d.E)}
	case api.DLet:
		return []part{{text: let(d.Text, d.Rec)}, expr(d.E)}
	case api.DType:
		return slices.Concat(plain("type "), variables(d.N), plain(d.Text+" = "), joined(d.Ctors, " | ", ctor))
	}
	return nil
}

// variables: those of a type declaration that has n, and a blank; nothing if it has none.
func variables(n int) []part {
	if n < 1 {
		return nil
	}
	var l []int
	for i := range n {
		l = append(l, i+1)
	}
	return append(enclosed(joined(l, ", ", variable)), part{text: " "})
}

func variable(n int) part {
	return part{text: Var(n)}
}

func ctor(c api.Ctor) part {
	if !c.Has {
		return part{text: c.Name}
	}
	return part{parts: func() []part { return []part{{text: c.Name + " of "}, typ(c.T)} }}
}

func typ(t api.Type) part {
	return part{parts: func() []part { return typeParts(t) }}
}

func typeParts(t api.Type) []part {
	switch {
	case t.Name == "":
		return plain(Var(t.Var))
	case isFunction(t):
		return []part{left(t.Kids[0]), {text: " -> "}, typ(t.Kids[1])}
	case isProduct(t):
		return joined(t.Kids, " * ", tight)
	case len(t.Kids) == 0:
		return plain(t.Name)
	case len(t.Kids) == 1:
		return []part{tight(t.Kids[0]), {text: " " + t.Name}}
	}
	return append(enclosed(joined(t.Kids, ", ", typ)), part{text: " " + t.Name})
}

func isFunction(t api.Type) bool {
	return t.Name == "->" && len(t.Kids) == 2
}

func isProduct(t api.Type) bool {
	return t.Name == "*" && len(t.Kids) >= 2
}

// left: a type as it stands before -> .
func left(t api.Type) part {
	if !isFunction(t) {
		return typ(t)
	}
	return part{parts: func() []part { return enclosed(typeParts(t)) }}
}

// tight: a type as it stands in a product, and before a name.
func tight(t api.Type) part {
	if !isFunction(t) && !isProduct(t) {
		return typ(t)
	}
	return part{parts: func() []part { return enclosed(typeParts(t)) }}
}
