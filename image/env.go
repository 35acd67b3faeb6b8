package image

import (
	"math"

	"battledore/api"
	"battledore/infer"
	"battledore/octet"
)

func writeEnv(w *octet.Writer, env infer.Env) {
	w.Uint(uint64(len(env.Types)))
	for _, s := range env.Types {
		w.Text(s)
	}
	w.Uint(uint64(len(env.Arity)))
	for _, n := range env.Arity {
		w.Int(int64(n))
	}
	w.Uint(uint64(len(env.Cons)))
	for _, k := range env.Cons {
		writeCon(w, k)
	}
	w.Uint(uint64(len(env.Vals)))
	for _, v := range env.Vals {
		w.Text(v.Name).Int(int64(v.S.N))
		writeType(w, v.S.T)
	}
}

func readEnv(r *octet.Reader) infer.Env {
	return infer.Env{
		Types: some(r, func() string { return readText(r) }),
		Arity: some(r, func() int { return int(r.Int()) }),
		Cons:  some(r, func() infer.Con { return readCon(r) }),
		Vals:  some(r, func() infer.Val { return readVal(r) }),
	}
}

func writeCon(w *octet.Writer, k infer.Con) {
	has := uint64(0)
	if k.Has {
		has = 1
	}
	w.Text(k.Name).Text(k.Type).Int(int64(k.N)).Uint(has)
	writeType(w, k.T)
}

func readCon(r *octet.Reader) infer.Con {
	k := infer.Con{Name: readText(r), Type: readText(r), N: int(r.Int()), Has: r.Upto(1) == 1}
	k.T = readType(r)
	return k
}

func readVal(r *octet.Reader) infer.Val {
	return infer.Val{Name: readText(r), S: api.Scheme{N: int(r.Int()), T: readType(r)}}
}

func readText(r *octet.Reader) string {
	return r.Text(math.MaxInt)
}

// some: the next items, ahead of which stands how many they are. It ends at a fault, because that number is no reason to make memory for them.
func some[T any](r *octet.Reader, next func() T) []T {
	var l []T
	for range r.Upto(math.MaxInt) {
		l = append(l, next())
		if r.Bad() {
			return nil
		}
	}
	return l
}

// writeType: each part of a type, ahead of its kids. They may be within one another more deeply than calls may be, so what is left stands in a list.
func writeType(w *octet.Writer, t api.Type) {
	left := []api.Type{t}
	for len(left) > 0 {
		i := len(left) - 1
		x := left[i]
		left = left[:i]
		w.Text(x.Name).Int(int64(x.Var)).Uint(uint64(len(x.Kids)))
		for k := range x.Kids {
			left = append(left, x.Kids[len(x.Kids)-1-k])
		}
	}
}

// parent is a type some of whose kids are still to be read.
type parent struct {
	t    api.Type
	left int
}

func readType(r *octet.Reader) api.Type {
	var open []parent
	for !r.Bad() {
		open = append(open, parent{api.Type{Name: readText(r), Var: int(r.Int())}, r.Upto(math.MaxInt)})
		for open[len(open)-1].left == 0 {
			t := open[len(open)-1].t
			open = open[:len(open)-1]
			if len(open) == 0 {
				return t
			}
			up := &open[len(open)-1]
			up.t.Kids = append(up.t.Kids, t)
			up.left--
		}
	}
	return api.Type{}
}
