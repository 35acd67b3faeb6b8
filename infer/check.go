package infer

import (
	"battledore/api"
	"battledore/types"
)

// checker infers the types of one declaration. What has no type is thrown, as an api.Errno.
type checker struct {
	env   Env
	local []Val // names that count ahead of the environment's
	subst *types.Subst
	left  []api.Type // what was made equal ..
	right []api.Type // .. to these
	asked []api.Type // what must not be great in the end
	open  int        // how many parts are open within one another
}

// ofDecl: the scheme of an expression, or of what a name is bound to.
func ofDecl(env Env, d api.Decl) api.Scheme {
	c := &checker{env: env, subst: types.New(0)}
	t := c.bound(d.Text, d.Rec && d.Kind == api.DLet, d.E)
	for _, a := range c.asked {
		c.small(a)
	}
	s := types.Close(c.subst.Apply(t), nil)
	if d.Kind == api.DLet && s.N > 0 && !isValue(d.E) {
		panic(api.ErrType)
	}
	return s
}

// nested infers a part. What is nested deeper than any cell's parts can be is refused, lest calls are.
func (c *checker) nested(part func() api.Type) api.Type {
	if c.open == api.MaxSource {
		panic(api.ErrType)
	}
	c.open++
	t := part()
	c.open--
	return t
}

func (c *checker) same(a, b api.Type) {
	if !c.subst.Unify(a, b) {
		panic(api.ErrType)
	}
	c.left = append(c.left, a)
	c.right = append(c.right, b)
}

// ask: a type that must not be great, as it is in the end.
func (c *checker) ask(t api.Type) {
	c.asked = append(c.asked, t)
}

func (c *checker) small(t api.Type) {
	if c.subst.Size(t, Great+1) > Great {
		panic(api.ErrType)
	}
}

// bound: the type of what a name is bound to; it is a variable, and newer than all that the names from outside have.
func (c *checker) bound(name string, rec bool, x api.Expr) api.Type {
	t := c.subst.Fresh()
	c.ask(t)
	if rec {
		c.same(t, c.body(x, single(name, t)))
	} else {
		c.same(t, c.expr(x))
	}
	return t
}

// general: the scheme of a value, of which bound has returned t, when from pairs had been made equal before it.
func (c *checker) general(t api.Type, from int) api.Scheme {
	c.small(t) // it doesn't become smaller, and a great one isn't to be applied
	u := c.subst.Apply(t)
	return types.Close(u, c.held(types.Vars(u), t.Var, from))
}

// held: those of some variables of the type of a value that occur in the types of local names. All variables from first on, and all equations from a place on, were made for the value.
//
// The types of local names may have very many parts, so they aren't looked at. Instead the value's equations are made twice, with two sets of new variables in place of those that were made for it: only the local names connect the two, so the variables that are the same in both are those that occur in them.
func (c *checker) held(vars []int, first, from int) []int {
	var asked []api.Type
	for _, v := range vars {
		asked = append(asked, api.Type{Var: v})
	}
	whole := named("*", named("*", c.left[from:]...), named("*", c.right[from:]...), named("*", asked...))
	var old []int
	for _, v := range types.Vars(whole) {
		if v < first {
			old = append(old, v)
		}
	}
	scheme := types.Close(whole, old)
	twice := types.New(first)
	a, b := twice.Open(scheme).Kids, twice.Open(scheme).Kids
	twice.Unify(a[0], a[1])
	twice.Unify(b[0], b[1])
	var out []int
	for i, v := range vars {
		if types.Same(twice.Apply(a[2].Kids[i]), twice.Apply(b[2].Kids[i])) {
			out = append(out, v)
		}
	}
	return out
}

// isValue: is it something that may be of many types?
func isValue(x api.Expr) bool {
	switch x.Kind {
	case api.EInt, api.EText, api.EBool, api.EUnit, api.EVar, api.ENil, api.EFun:
		return true
	case api.ECon, api.ETuple, api.ECons:
		for _, k := range x.Kids {
			if !isValue(k) {
				return false
			}
		}
		return true
	}
	return false
}

// single: a name with a type all of whose variables occur in the type of a local name: in its own.
func single(name string, t api.Type) Val {
	return Val{name, types.Close(t, types.Vars(t))}
}
