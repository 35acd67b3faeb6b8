package heap

// moved is the kind of what is left of an object that has been moved; instead of its parts its size says where to.
const moved byte = 0

// Collect: what isn't reached from the roots goes; what they are is where it stands then. What is reached stands in the order in which it is come to, the roots from the first on.
func (h *Heap) Collect(roots []*Word) {
	if h == nil {
		return
	}
	to := &Heap{words: make([]Word, 0, len(h.words)), first: make([]bool, 0, len(h.words))}
	words := h.moveRoots(to, roots)
	h.moveParts(to)
	for i, r := range roots {
		if r != nil {
			*r = words[i]
		}
	}
	h.words, h.first = to.words, to.first
	h.collections++
}

// moveRoots: what the roots are to be. They stay as they are for now: what is a root twice must not be taken for an object that hasn't been moved.
func (h *Heap) moveRoots(to *Heap, roots []*Word) []Word {
	words := make([]Word, len(roots))
	for i, r := range roots {
		if r != nil {
			words[i] = h.move(to, *r)
		}
	}
	return words
}

// moveParts moves the parts of what has been moved, and theirs, until no more comes to it.
func (h *Heap) moveParts(to *Heap) {
	for at := 0; at < len(to.words); {
		w := Word(2 * at)
		for i, p := range to.parts(w) {
			to.words[at+1+i] = h.move(to, p)
		}
		at += len(to.object(w))
	}
}

// move: where an object stands in another heap, behind all others there unless it was moved before. What is no object stays what it is.
func (h *Heap) move(to *Heap, w Word) Word {
	if !h.isObject(w) {
		return w
	}
	if old := h.words[w/2]; old.kind() == moved {
		return Word(2 * old.size())
	}
	l := h.object(w)
	v := to.lay(l[0], l[1:])
	l[0] = head(moved, int(v/2))
	return v
}
