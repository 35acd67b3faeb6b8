package drum

// track is what is read, and what of it survives. The durable bytes may be the first ones of the others, in the same memory: bytes are added behind them, and what is written lies in memory of its own, so nothing ever changes them, and a sync copies none.
type track struct {
	now     []byte
	durable []byte
	written bool // since it was durable; then the durable bytes are no longer the first ones
}

// settle: what is there is durable.
func (t *track) settle() {
	t.durable, t.written = t.now, false
}

// lose: the power fails: of what isn't durable the first bytes stay, as many as the cut says.
func (t *track) lose(cut int) {
	switch {
	case !t.written:
		more := len(t.now) - len(t.durable)
		t.now = t.now[:len(t.durable)+min(max(cut, 0), more)]
	case cut < 0:
		t.now = t.durable
	default:
		t.now = t.now[:min(cut, len(t.now))]
	}
	t.settle()
}

// fresh: these bytes, in memory of their own.
func fresh(p []byte) []byte {
	return append([]byte(nil), p...)
}
