package chunk

import (
	"trunkline/api"
	"trunkline/wire"
)

// writer puts numbers and bytes behind those that it has.
type writer struct {
	b []byte
}

func (w *writer) one(n uint8) { w.number(uint64(n), 1) }

func (w *writer) two(n uint16) { w.number(uint64(n), 2) }

func (w *writer) four(n uint32) { w.number(uint64(n), 4) }

func (w *writer) number(n uint64, size int) {
	w.bytes(wire.Put(nil, n, size))
}

func (w *writer) bytes(b []byte) {
	w.b = append(w.b, b...)
}

// padded puts the length of b, which counts the head too, and b with its zero bytes.
func (w *writer) padded(b []byte) {
	w.two(uint16(head + len(b)))
	w.bytes(wire.Padded(b))
}

// reader takes numbers and bytes from the front of those that it was given. It keeps its first error, so that who reads asks for it once, at the end.
type reader struct {
	b  []byte
	at int
	e  api.Errno
}

func (r *reader) one() uint8 { return uint8(r.number(1)) }

func (r *reader) two() uint16 { return uint16(r.number(2)) }

func (r *reader) four() uint32 { return uint32(r.number(4)) }

func (r *reader) number(size int) uint64 {
	n, e := wire.Get(r.b, r.at, size)
	r.pass(size, e)
	return n
}

func (r *reader) bytes(n int) []byte {
	b, e := wire.Part(r.b, r.at, n)
	r.pass(n, e)
	return b
}

// padded takes bytes as a writer's padded puts them.
func (r *reader) padded() []byte {
	n := int(r.two())
	r.require(n >= head)
	b := r.bytes(n - head)
	for _, x := range r.bytes(wire.Pad(n)) {
		r.require(x == 0)
	}
	return b
}

// require is told whether what was just read may stand there.
func (r *reader) require(ok bool) {
	if !ok {
		r.fail(api.ErrForm)
	}
}

func (r *reader) pass(n int, e api.Errno) {
	if e != api.OK {
		r.fail(e)
		return
	}
	r.at += n
}

func (r *reader) fail(e api.Errno) {
	if r.e == api.OK {
		r.e = e
	}
}

func (r *reader) left() int {
	return len(r.b) - r.at
}

func (r *reader) done() bool {
	return r.left() == 0
}

// whole tells whether everything was there, and nothing is left.
func (r *reader) whole() bool {
	return r.e == api.OK && r.done()
}
