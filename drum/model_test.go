package drum_test

import (
	"math"
	"math/rand"
	"testing"

	"battledore/api"
	"battledore/drum"
)

// past is a track of the model: what was durable, and what was done to it since then.
type past struct {
	durable string
	since   []act
}

// now: what the track contains, and whether it was written.
func (p *past) now() (string, bool) {
	s, written := p.durable, false
	for _, a := range p.since {
		if a.name == "write" {
			s, written = "", true
		}
		s += a.bytes
	}
	return s, written
}

func (p *past) lose(cut int) {
	s, written := p.now()
	kept := ""
	switch {
	case !written:
		kept = p.durable + first(s[len(p.durable):], cut)
	case cut < 0:
		kept = p.durable
	default:
		kept = first(s, cut)
	}
	*p = past{durable: kept}
}

// first: the first n bytes, as far as there are any.
func first(s string, n int) string {
	out := ""
	for i := range len(s) {
		if i < n {
			out += s[i : i+1]
		}
	}
	return out
}

// model is a drum that keeps what was done, and the number of the operation in which the power fails.
type model struct {
	most   int
	tracks []past
	off    bool
	ops    int
	last   int
}

func (m *model) do(a act) api.Errno {
	if a.track < 0 || a.track >= len(m.tracks) {
		return api.ErrArg
	}
	if m.off {
		return api.ErrCrash
	}
	p := &m.tracks[a.track]
	s, _ := p.now()
	if a.name == "append" && len(s)+len(a.bytes) > m.most || a.name == "write" && len(a.bytes) > m.most {
		return api.ErrFull
	}
	m.ops++
	m.off = m.ops == m.last
	if a.name != "sync" {
		p.since = append(p.since, a)
	} else if !m.off {
		*p = past{durable: s}
	}
	if m.off {
		return api.ErrCrash
	}
	return api.OK
}

func (m *model) arm(n int) api.Errno {
	if n < 0 {
		return api.ErrArg
	}
	m.last = 0
	if n > 0 {
		m.last = m.ops + n
	}
	return api.OK
}

func (m *model) restart(cuts []int) {
	for i := range m.tracks {
		if i < len(cuts) {
			m.tracks[i].lose(cuts[i])
		} else {
			m.tracks[i].lose(-1)
		}
	}
	m.off, m.last = false, 0
}

// same asks that a drum is as its model says.
func same(t *testing.T, d *drum.Drum, m *model) {
	t.Helper()
	stands(t, d, !m.off, m.ops)
	for i := range m.tracks {
		want, _ := m.tracks[i].now()
		if !m.off {
			holds(t, d, i, want)
			continue
		}
		p, e := d.Read(i)
		comes(t, "Read", e, api.ErrCrash)
		if len(p) != 0 {
			t.Errorf("%q is read", p)
		}
	}
}

func someBytes(rnd *rand.Rand, most int) string {
	n := rnd.Intn(5)
	if rnd.Intn(6) == 0 {
		n = rnd.Intn(most + 3)
	}
	p := make([]byte, n)
	rnd.Read(p)
	return string(p)
}

func someCuts(rnd *rand.Rand, tracks int) []int {
	l := make([]int, rnd.Intn(tracks+3))
	for i := range l {
		l[i] = rnd.Intn(9) - 2
		if rnd.Intn(20) == 0 {
			l[i] = []int{math.MaxInt, math.MinInt, 100}[rnd.Intn(3)]
		}
	}
	return l
}

// P13.1, P13.2, P2: any calls, in any order, held against a model that keeps all that was done since a track was durable.
func TestLikeModel(t *testing.T) {
	names := []string{"append", "append", "write", "sync", "sync"}
	for seed := range int64(1500) {
		rnd := rand.New(rand.NewSource(seed))
		tracks, most := 1+rnd.Intn(api.MaxTracks), 1+rnd.Intn(40)
		d, m := made(t, tracks, most), &model{most: most, tracks: make([]past, tracks)}
		for range 120 {
			switch n := rnd.Intn(20); n {
			case 0:
				cuts := someCuts(rnd, tracks)
				comes(t, "Restart", d.Restart(cuts), api.OK)
				m.restart(cuts)
			case 1:
				k := rnd.Intn(9) - 1
				comes(t, "Arm", d.Arm(k), m.arm(k))
			default:
				a := act{name: names[n%len(names)], track: rnd.Intn(tracks+2) - 1}
				if a.name != "sync" {
					a.bytes = someBytes(rnd, most)
				}
				comes(t, a.name, do(d, a), m.do(a))
			}
			same(t, d, m)
			if t.Failed() {
				t.Fatalf("seed %d", seed)
			}
		}
	}
}
