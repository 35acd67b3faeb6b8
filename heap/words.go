package heap

import (
	"slices"

	"battledore/api"
)

// Copy: the same heap.
func (h *Heap) Copy() *Heap {
	if h == nil {
		return nil
	}
	return &Heap{quota: h.quota, collections: h.collections, words: slices.Clone(h.words), first: slices.Clone(h.first)}
}

// Words: all words of the heap.
func (h *Heap) Words() []Word {
	if h == nil {
		return nil
	}
	return slices.Clone(h.words)
}

// Load: a heap of these words. ErrForm: they aren't objects, one behind the other, whose parts are numbers, or objects that stand there.
func Load(quota int, l []Word) (*Heap, api.Errno) {
	h, e := New(quota)
	if e != api.OK {
		return nil, e
	}
	if len(l) > quota {
		return nil, api.ErrLong
	}
	h.words, h.first = slices.Clone(l), make([]bool, len(l))
	if !h.findObjects() || !h.hasSoundParts() {
		return nil, api.ErrForm
	}
	return h, api.OK
}

// findObjects notes where objects begin; false: there is something else. (The size is bounded ahead of the rest, because an int may be shorter than it.)
func (h *Heap) findObjects() bool {
	for at := 0; at < len(h.words); {
		w, rest := h.words[at], len(h.words)-at
		if !isKind(w.kind()) || w>>8 > Word(bytesOfWord*rest) || Need(w.kind(), w.size()) > rest {
			return false
		}
		h.first[at] = true
		at += Need(w.kind(), w.size())
	}
	return true
}

// hasSoundParts: are all parts numbers, or objects?
func (h *Heap) hasSoundParts() bool {
	for at := 0; at < len(h.words); {
		w := Word(2 * at)
		for _, p := range h.parts(w) {
			if !p.IsNum() && !h.isObject(p) {
				return false
			}
		}
		at += len(h.object(w))
	}
	return true
}
