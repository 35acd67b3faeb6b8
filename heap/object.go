package heap

import (
	"battledore/api"
)

// The kinds of objects.
const (
	KTuple byte = iota + 1
	KCon
	KText
	KRef
	KFun
	KPrim
)

// bytesOfWord is how many bytes of a text a word has.
const bytesOfWord = 8

func isKind(kind byte) bool {
	return kind >= KTuple && kind <= KPrim
}

// head: the first word of an object.
func head(kind byte, n int) Word {
	return Word(n)<<8 | Word(kind)
}

// kind: what a first word says of the kind.
func (w Word) kind() byte {
	return byte(w)
}

// size: what a first word says of how many parts, or bytes, there are.
func (w Word) size() int {
	return int(w >> 8)
}

// Need: how many words an object of a kind and so many parts, or bytes, takes.
func Need(kind byte, n int) int {
	n = max(n, 0)
	if kind != KText {
		return 1 + n
	}
	return 1 + n/bytesOfWord + (n%bytesOfWord+bytesOfWord-1)/bytesOfWord
}

// Put: an object of a kind with these parts; what isn't reached from the roots, and the parts, may go.
func (h *Heap) Put(kind byte, parts []Word, roots []*Word) (Word, api.Errno) {
	if h == nil {
		return 0, api.ErrNone
	}
	if !isKind(kind) || kind == KText {
		return 0, api.ErrArg
	}
	if !h.makeRoom(Need(kind, len(parts)), parts, roots) {
		return 0, api.ErrMem
	}
	return h.lay(head(kind, len(parts)), parts), api.OK
}

// PutText: a text.
func (h *Heap) PutText(s string, roots []*Word) (Word, api.Errno) {
	if h == nil {
		return 0, api.ErrNone
	}
	if !h.makeRoom(Need(KText, len(s)), nil, roots) {
		return 0, api.ErrMem
	}
	return h.lay(head(KText, len(s)), packed(s)), api.OK
}

// makeRoom: is there room for so many words, if need be behind a collection?
func (h *Heap) makeRoom(need int, parts []Word, roots []*Word) bool {
	if need > h.quota-len(h.words) {
		all := append(make([]*Word, 0, len(roots)+len(parts)), roots...)
		for i := range parts {
			all = append(all, &parts[i])
		}
		h.Collect(all)
	}
	return need <= h.quota-len(h.words)
}

// lay lays an object behind all others.
func (h *Heap) lay(head Word, rest []Word) Word {
	w := Word(2 * len(h.words))
	h.words = append(append(h.words, head), rest...)
	h.first = append(append(h.first, true), make([]bool, len(rest))...)
	return w
}

// packed: the bytes of a text as words, the lowest byte first.
func packed(s string) []Word {
	l := make([]Word, Need(KText, len(s))-1)
	for i := range len(s) {
		l[i/bytesOfWord] |= Word(s[i]) << (8 * (i % bytesOfWord))
	}
	return l
}

// isObject: does an object begin where w says?
func (h *Heap) isObject(w Word) bool {
	return h != nil && !w.IsNum() && w/2 < Word(len(h.words)) && h.first[w/2]
}

// object: the words of an object, the first one included; none, if w isn't one.
func (h *Heap) object(w Word) []Word {
	if !h.isObject(w) {
		return nil
	}
	l := h.words[w/2:]
	return l[:Need(l[0].kind(), l[0].size())]
}

// Kind: the kind of an object; 0: it is none.
func (h *Heap) Kind(w Word) byte {
	if l := h.object(w); len(l) > 0 {
		return l[0].kind()
	}
	return 0
}

// Len: how many parts, or bytes, an object has.
func (h *Heap) Len(w Word) int {
	if l := h.object(w); len(l) > 0 {
		return l[0].size()
	}
	return 0
}

// parts: the parts of an object; a text has none.
func (h *Heap) parts(w Word) []Word {
	l := h.object(w)
	if len(l) == 0 || l[0].kind() == KText {
		return nil
	}
	return l[1:]
}

// Part: a part of an object.
func (h *Heap) Part(w Word, i int) (Word, api.Errno) {
	l := h.parts(w)
	if i < 0 || i >= len(l) {
		return 0, api.ErrArg
	}
	return l[i], api.OK
}

// SetPart: a part is another one from now on.
func (h *Heap) SetPart(w Word, i int, v Word) api.Errno {
	l := h.parts(w)
	if i < 0 || i >= len(l) {
		return api.ErrArg
	}
	l[i] = v
	return api.OK
}

// Text: the bytes of a text.
func (h *Heap) Text(w Word) string {
	l := h.object(w)
	if len(l) == 0 || l[0].kind() != KText {
		return ""
	}
	s := make([]byte, l[0].size())
	for i := range s {
		s[i] = byte(l[1+i/bytesOfWord] >> (8 * (i % bytesOfWord)))
	}
	return string(s)
}
