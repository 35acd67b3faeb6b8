package code

import (
	"battledore/api"
	"battledore/octet"
)

// most is how many instructions a function has at most that is read, how many values it captures, and how great an A is.
const most = 1 << 20

// Encode: functions as bytes.
func Encode(w *octet.Writer, l []Fun) {
	w.Uint(uint64(len(l)))
	for _, f := range l {
		w.Uint(uint64(f.Caps)).Uint(uint64(len(f.Code)))
		for _, x := range f.Code {
			w.Uint(uint64(x.Op)).Int(x.N).Uint(uint64(x.A)).Text(x.S)
		}
	}
}

// Decode: the next functions; none at a fault.
func Decode(r *octet.Reader) []Fun {
	var l []Fun
	for range r.Upto(api.MaxFuns) {
		l = append(l, decodeFun(r))
		if r.Bad() {
			return nil
		}
	}
	return l
}

// decodeFun: the next function. It ends at a fault, because a number of instructions is no reason to make memory for them.
func decodeFun(r *octet.Reader) Fun {
	f := Fun{Caps: r.Upto(most)}
	for range r.Upto(most) {
		f.Code = append(f.Code, decodeIns(r))
		if r.Bad() {
			break
		}
	}
	return f
}

func decodeIns(r *octet.Reader) Ins {
	op := r.Upto(0xff)
	n := r.Int()
	a := r.Upto(most)
	return Ins{Op: byte(op), N: n, A: a, S: r.Text(api.MaxSource)}
}
