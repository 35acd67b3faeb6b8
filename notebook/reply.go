package notebook

import (
	"battledore/api"
	"battledore/octet"
)

// most is how many bindings, and how many moves, are read at most.
const most = 65536

// Reply: an outcome as bytes.
func Reply(o api.Outcome) []byte {
	w := &octet.Writer{}
	w.Int(int64(o.E)).Int(int64(o.At)).Text(o.Raise)
	w.Uint(uint64(len(o.Binds)))
	for _, b := range o.Binds {
		w.Text(b.Name).Text(b.Type).Text(b.Value)
	}
	w.Text(o.Out)
	w.Uint(uint64(len(o.Moves)))
	for _, m := range o.Moves {
		turn := uint64(0)
		if m.Turn {
			turn = 1
		}
		w.Uint(turn).Int(m.N)
	}
	return w.Done()
}

// Read: the outcome of some bytes.
func Read(p []byte) (api.Outcome, api.Errno) {
	r := octet.NewReader(p)
	o := api.Outcome{
		E:     api.Errno(r.Int()),
		At:    int(r.Int()),
		Raise: readText(r),
		Binds: readBinds(r),
		Out:   readText(r),
		Moves: readMoves(r),
	}
	if !r.End() {
		return api.Outcome{}, api.ErrForm
	}
	return o, api.OK
}

func readText(r *octet.Reader) string {
	return r.Text(api.MaxTrack)
}

func readBinds(r *octet.Reader) []api.Binding {
	var l []api.Binding
	for range r.Upto(most) {
		l = append(l, api.Binding{Name: readText(r), Type: readText(r), Value: readText(r)})
		if r.Bad() {
			return nil
		}
	}
	return l
}

func readMoves(r *octet.Reader) []api.Move {
	var l []api.Move
	for range r.Upto(most) {
		l = append(l, api.Move{Turn: r.Upto(1) == 1, N: r.Int()})
		if r.Bad() {
			return nil
		}
	}
	return l
}
