package ballot

import (
	"battledore/api"
	"battledore/octet"
)

// most is how many entries a message has at most that is read.
const most = 65536

// Encode: a message as bytes.
func Encode(m Msg) []byte {
	ok := uint64(0)
	if m.OK {
		ok = 1
	}
	w := &octet.Writer{}
	w.Uint(uint64(m.Kind)).Int(int64(m.From)).Int(int64(m.To))
	w.Uint(m.Term).Uint(m.Index).Uint(m.LogTerm).Uint(m.Commit).Uint(ok)
	w.Uint(uint64(len(m.Entries)))
	for _, x := range m.Entries {
		w.Uint(x.Term).Uint(x.Session).Uint(x.Number).Bytes(x.Cell)
	}
	return octet.Seal(w.Bytes(m.Data).Done())
}

// Decode: the message of some bytes.
func Decode(b []byte) (Msg, api.Errno) {
	p, e := octet.Open(b)
	if e != api.OK {
		return Msg{}, e
	}
	r := octet.NewReader(p)
	m := Msg{
		Kind: byte(r.Upto(0xff)), From: int(r.Int()), To: int(r.Int()),
		Term: r.Uint(), Index: r.Uint(), LogTerm: r.Uint(), Commit: r.Uint(), OK: r.Upto(1) == 1,
		Entries: readEntries(r), Data: r.Bytes(api.MaxTrack),
	}
	if !r.End() {
		return Msg{}, api.ErrForm
	}
	return m, api.OK
}

// readEntries: the next entries. It ends at a fault, because their number is no reason to make memory for them.
func readEntries(r *octet.Reader) []api.Entry {
	var l []api.Entry
	for range r.Upto(most) {
		l = append(l, api.Entry{Term: r.Uint(), Session: r.Uint(), Number: r.Uint(), Cell: r.Bytes(api.MaxRecord)})
		if r.Bad() {
			return nil
		}
	}
	return l
}
