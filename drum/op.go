package drum

import (
	"battledore/api"
)

// Read: the bytes of a track.
func (d *Drum) Read(i int) ([]byte, api.Errno) {
	if e := d.check(i); e != api.OK {
		return nil, e
	}
	return fresh(d.tracks[i].now), api.OK
}

// Append: more bytes, behind those of a track.
func (d *Drum) Append(i int, p []byte) api.Errno {
	if e := d.check(i); e != api.OK {
		return e
	}
	t := &d.tracks[i]
	if len(p) > d.most-len(t.now) {
		return api.ErrFull
	}
	t.now = append(t.now, p...)
	return d.count()
}

// Write: these bytes, in the place of those of a track.
func (d *Drum) Write(i int, p []byte) api.Errno {
	if e := d.check(i); e != api.OK {
		return e
	}
	if len(p) > d.most {
		return api.ErrFull
	}
	t := &d.tracks[i]
	t.now, t.written = fresh(p), true
	return d.count()
}

// Sync: the bytes of a track are durable.
func (d *Drum) Sync(i int) api.Errno {
	if e := d.check(i); e != api.OK {
		return e
	}
	e := d.count()
	if e == api.OK {
		d.tracks[i].settle()
	}
	return e
}

// check: may this track be used now?
func (d *Drum) check(i int) api.Errno {
	switch {
	case d == nil:
		return api.ErrNone
	case i < 0 || i >= len(d.tracks):
		return api.ErrArg
	case d.off:
		return api.ErrCrash
	}
	return api.OK
}

// count: one operation more. ErrCrash: the power fails in it.
func (d *Drum) count() api.Errno {
	d.ops++
	if d.fuse == 0 {
		return api.OK
	}
	d.fuse--
	if d.fuse > 0 {
		return api.OK
	}
	d.off = true
	return api.ErrCrash
}
