// Package octet is layer 1, the encoding of integers and bytes, and checksums: see shared/doc/01-octet.md.
package octet

import (
	"bytes"
	"math/bits"

	"battledore/api"
)

// Writer lays numbers and bytes one behind the other; its zero value is ready for use.
type Writer struct {
	out []byte
}

// Uint: a number: a byte says how many bytes it has, the highest first, without noughts ahead.
func (w *Writer) Uint(n uint64) *Writer {
	if w == nil {
		return nil
	}
	size := (bits.Len64(n) + 7) / 8
	w.out = append(w.out, byte(size))
	for i := range size {
		w.out = append(w.out, byte(n>>(8*(size-1-i))))
	}
	return w
}

// Int: a number with a sign. The sign is the lowest bit, so that small numbers stay short below 0, too.
func (w *Writer) Int(n int64) *Writer {
	return w.Uint(uint64(n)<<1 ^ uint64(n>>63))
}

// Bytes: how many, and they.
func (w *Writer) Bytes(b []byte) *Writer {
	if w == nil {
		return nil
	}
	w.Uint(uint64(len(b)))
	w.out = append(w.out, b...)
	return w
}

// Text: how many bytes, and they.
func (w *Writer) Text(s string) *Writer {
	if w == nil {
		return nil
	}
	w.Uint(uint64(len(s)))
	w.out = append(w.out, s...)
	return w
}

// Done: what was laid, as a copy, because the writer may go on.
func (w *Writer) Done() []byte {
	if w == nil {
		return nil
	}
	return bytes.Clone(w.out)
}

// Reader reads what was laid; behind its first fault it reads nothing.
type Reader struct {
	rest []byte
	bad  bool
}

// NewReader: a reader of a copy of p, because the caller may modify p.
func NewReader(p []byte) *Reader {
	return &Reader{rest: bytes.Clone(p)}
}

// Uint: the next number.
func (r *Reader) Uint() uint64 {
	p := r.take(r.size())
	if len(p) == 0 {
		return 0
	}
	if p[0] == 0 { // a writer doesn't make it: each number has one encoding alone
		r.Fail()
		return 0
	}
	n := uint64(0)
	for _, b := range p {
		n = n<<8 | uint64(b)
	}
	return n
}

// Int: the next number with a sign.
func (r *Reader) Int() int64 {
	n := r.Uint()
	return int64(n>>1) ^ -int64(n&1)
}

// Upto: the next number, at most that.
func (r *Reader) Upto(most int) int {
	n := r.Uint()
	if most < 0 || n > uint64(most) {
		r.Fail()
		return 0
	}
	return int(n)
}

// Bytes: the next bytes, at most so many.
func (r *Reader) Bytes(most int) []byte {
	return bytes.Clone(r.take(r.Upto(most)))
}

// Text: the next bytes, at most so many, as a text.
func (r *Reader) Text(most int) string {
	return string(r.take(r.Upto(most)))
}

// Fail: there is a fault.
func (r *Reader) Fail() {
	if r != nil {
		r.bad = true
	}
}

// Bad: is there a fault?
func (r *Reader) Bad() bool {
	return r == nil || r.bad
}

// End: is there none, and nothing left?
func (r *Reader) End() bool {
	return !r.Bad() && len(r.rest) == 0
}

// size: of how many bytes the next number is.
func (r *Reader) size() int {
	p := r.take(1)
	if len(p) == 0 {
		return 0
	}
	if p[0] > 8 {
		r.Fail()
		return 0
	}
	return int(p[0])
}

// take: the next n bytes, in the reader's own memory; nothing, with a fault, if there are fewer.
func (r *Reader) take(n int) []byte {
	if r.Bad() {
		return nil
	}
	if n > len(r.rest) {
		r.Fail()
		return nil
	}
	p := r.rest[:n]
	r.rest = r.rest[n:]
	return p
}

// castagnoli is the polynomial of CRC-32C; its lowest bit is that of the highest power.
const castagnoli = 0x82f63b78

// Sum: CRC-32C.
func Sum(p []byte) uint32 {
	sum := ^uint32(0)
	for _, b := range p {
		sum = divide(sum ^ uint32(b))
	}
	return ^sum
}

// divide: what is left of a sum when eight bits of it have gone out. Without a branch, because half of the bits would be guessed wrong.
func divide(sum uint32) uint32 {
	for range 8 {
		sum = sum>>1 ^ castagnoli&-(sum&1)
	}
	return sum
}

// Seal: bytes with their sum behind them, the lowest byte first.
func Seal(p []byte) []byte {
	sum := Sum(p)
	out := make([]byte, 0, len(p)+4)
	out = append(out, p...)
	for i := range 4 {
		out = append(out, byte(sum>>(8*i)))
	}
	return out
}

// Open: the bytes of which p is the Seal.
func Open(p []byte) ([]byte, api.Errno) {
	n := len(p) - 4
	if n < 0 {
		return nil, api.ErrForm
	}
	sealed := Seal(p[:n])
	if !bytes.Equal(sealed, p) {
		return nil, api.ErrSum
	}
	return sealed[:n:n], api.OK
}
