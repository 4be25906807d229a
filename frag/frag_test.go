package frag

import (
	"bytes"
	"math"
	"math/rand"
	"reflect"
	"slices"
	"testing"

	"trunkline/api"
)

// firsts: the TSN of the first of some pieces, so that the ones behind it go round early, late or not at all, or pass the middle.
var firsts = []uint32{0, 1, 5, 1<<16 - 1, math.MaxInt32 - 1, math.MaxInt32, math.MaxInt32 + 1, math.MaxUint32 - 3, math.MaxUint32 - 2, math.MaxUint32 - 1, math.MaxUint32}

// plainCutter does what the chapter asks of a Cutter in the plainest way: it counts the ordered messages of each stream, and cuts byte by byte.
type plainCutter struct {
	ordered map[uint16]int
}

func (p *plainCutter) cut(m api.Message, unordered bool, size int) ([]api.Piece, api.Errno) {
	if len(m.Bytes) == 0 || m.Stream > 7 || size <= 0 || size > 256 {
		return nil, api.ErrArg
	}
	if len(m.Bytes) > 4096 {
		return nil, api.ErrLarge
	}
	seq := 0
	if !unordered {
		if p.ordered == nil {
			p.ordered = map[uint16]int{}
		}
		seq = p.ordered[m.Stream] % 65536
		p.ordered[m.Stream]++
	}
	list := make([]api.Piece, (len(m.Bytes)+size-1)/size)
	for i := range list {
		list[i] = api.Piece{Stream: m.Stream, Seq: uint16(seq), Unordered: unordered, Begin: i == 0, End: i == len(list)-1}
	}
	for i, x := range m.Bytes {
		list[i/size].Bytes = append(list[i/size].Bytes, x)
	}
	return list, api.OK
}

// plainBox does what the chapter asks of a Box in the plainest way: it has a list of pieces, tries all runs of them, and has a list of what waits.
type plainBox struct {
	held    []api.Piece
	waiting []api.Piece // whole messages
	next    map[uint16]uint16
}

// at returns the piece with a TSN.
func (p *plainBox) at(tsn uint32) (api.Piece, bool) {
	for _, x := range p.held {
		if x.TSN == tsn {
			return x, true
		}
	}
	return api.Piece{}, false
}

// complete reports whether pieces with consecutive TSNs are a complete message.
func complete(run []api.Piece) bool {
	for i, x := range run {
		if x.Begin != (i == 0) || x.End != (i == len(run)-1) {
			return false
		}
		if x.Stream != run[0].Stream || x.Seq != run[0].Seq || x.Unordered != run[0].Unordered {
			return false
		}
	}
	return len(run) != 0
}

// message returns the pieces of the complete message of which the piece with a TSN is part, and nothing if there is none.
func (p *plainBox) message(tsn uint32) []api.Piece {
	for _, first := range p.held {
		if !first.Begin {
			continue
		}
		var run []api.Piece
		ours := false
		for x, there := first, true; there; x, there = p.at(x.TSN + 1) {
			run = append(run, x)
			ours = ours || x.TSN == tsn
			if ours && complete(run) {
				return run
			}
		}
	}
	return nil
}

func (p *plainBox) put(x api.Piece) ([]api.Message, api.Errno) {
	if len(x.Bytes) == 0 || len(x.Bytes) > 256 || x.Stream > 7 {
		return nil, api.ErrForm
	}
	if _, there := p.at(x.TSN); there {
		return nil, api.ErrThere
	}
	if len(p.held) == 512 {
		return nil, api.ErrFull
	}
	p.held = append(p.held, x)
	run := p.message(x.TSN)
	if run == nil {
		return nil, api.OK
	}
	whole := run[0]
	whole.Bytes = nil
	for _, piece := range run {
		whole.Bytes = append(whole.Bytes, piece.Bytes...)
		p.held = slices.DeleteFunc(p.held, func(y api.Piece) bool { return y.TSN == piece.TSN })
	}
	if whole.Unordered {
		return []api.Message{{Stream: whole.Stream, Bytes: whole.Bytes}}, api.OK
	}
	return p.deliver(whole), api.OK
}

// deliver adds an ordered message to those that wait, and returns those whose turn has come.
func (p *plainBox) deliver(whole api.Piece) []api.Message {
	if p.turn(whole.Stream, whole.Seq) < 0 {
		p.waiting = append(p.waiting, whole)
	}
	if p.next == nil {
		p.next = map[uint16]uint16{}
	}
	var list []api.Message
	for {
		i := p.turn(whole.Stream, p.next[whole.Stream])
		if i < 0 {
			return list
		}
		list = append(list, api.Message{Stream: whole.Stream, Bytes: p.waiting[i].Bytes})
		p.waiting = slices.Delete(p.waiting, i, i+1)
		p.next[whole.Stream]++
	}
}

// turn returns where the message with this Seq waits, and -1 if it doesn't.
func (p *plainBox) turn(stream, seq uint16) int {
	return slices.IndexFunc(p.waiting, func(x api.Piece) bool { return x.Stream == stream && x.Seq == seq })
}

// both is a Box and the plain one that goes with it.
type both struct {
	b *Box
	p plainBox
}

// put holds a Put against the plain one.
func (x *both) put(t *testing.T, p api.Piece) []api.Message {
	t.Helper()
	want, wrong := x.p.put(p)
	got, e := x.b.Put(p)
	if e != wrong || !sameMessages(got, want) {
		t.Fatalf("Put(%v) = %v, %d, want %v, %d", p, got, e, want, wrong)
	}
	if h := x.b.Held(); h != len(x.p.held) {
		t.Fatalf("Held() = %d after Put(%v), want %d", h, p, len(x.p.held))
	}
	return got
}

func sameMessages(a, b []api.Message) bool {
	return slices.EqualFunc(a, b, func(x, y api.Message) bool { return x.Stream == y.Stream && bytes.Equal(x.Bytes, y.Bytes) })
}

// samePieces: nil and empty bytes are one.
func samePieces(a, b []api.Piece) bool {
	return slices.EqualFunc(a, b, func(x, y api.Piece) bool {
		alike := bytes.Equal(x.Bytes, y.Bytes)
		x.Bytes, y.Bytes = nil, nil
		return alike && reflect.DeepEqual(x, y)
	})
}

// letters returns n bytes, no two neighbours of which are the same.
func letters(n int) []byte {
	b := make([]byte, n)
	for i := range b {
		b[i] = byte(i*7 + i/256)
	}
	return b
}

// on is a message on a stream.
func on(stream uint16, text string) api.Message {
	return api.Message{Stream: stream, Bytes: []byte(text)}
}

// part is a piece of an ordered message: marks has a B if it begins one, and an E if it ends one.
func part(tsn uint32, stream, seq uint16, marks, text string) api.Piece {
	return api.Piece{TSN: tsn, Stream: stream, Seq: seq, Begin: bytes.ContainsRune([]byte(marks), 'B'), End: bytes.ContainsRune([]byte(marks), 'E'), Bytes: []byte(text)}
}

// loose is a piece of an unordered one.
func loose(tsn uint32, stream, seq uint16, marks, text string) api.Piece {
	p := part(tsn, stream, seq, marks, text)
	p.Unordered = true
	return p
}

// puts checks what Put answers without an error.
func puts(t *testing.T, b *Box, p api.Piece, want ...api.Message) {
	t.Helper()
	if got, e := b.Put(p); e != api.OK || !sameMessages(got, want) {
		t.Errorf("Put(%v) = %v, %d, want %v", p, got, e, want)
	}
}

// refuses checks that Put answers an error, and holds as much as before.
func refuses(t *testing.T, b *Box, want api.Errno, p api.Piece) {
	t.Helper()
	before := b.Held()
	if got, e := b.Put(p); e != want || got != nil {
		t.Errorf("Put(%v) = %v, %d, want %d", p, got, e, want)
	}
	if h := b.Held(); h != before {
		t.Errorf("Held() = %d after an error, %d before it", h, before)
	}
}

// holds checks Held.
func holds(t *testing.T, b *Box, want int) {
	t.Helper()
	if h := b.Held(); h != want {
		t.Errorf("Held() = %d, want %d", h, want)
	}
}

// cuts checks the Seq of a message's pieces.
func cuts(t *testing.T, c *Cutter, stream uint16, unordered bool, seq uint16) {
	t.Helper()
	l, e := c.Cut(on(stream, "abc"), unordered, 2)
	want := []api.Piece{
		{Stream: stream, Seq: seq, Unordered: unordered, Begin: true, Bytes: []byte("ab")},
		{Stream: stream, Seq: seq, Unordered: unordered, End: true, Bytes: []byte("c")},
	}
	if e != api.OK || !samePieces(l, want) {
		t.Fatalf("Cut on stream %d, unordered %t = %v, %d, want %v", stream, unordered, l, e, want)
	}
}

func TestExamples(t *testing.T) {
	c := NewCutter()
	hello, e := c.Cut(on(1, "hello"), false, 2)
	want := []api.Piece{part(0, 1, 0, "B", "he"), part(0, 1, 0, "", "ll"), part(0, 1, 0, "E", "o")}
	if e != api.OK || !samePieces(hello, want) {
		t.Fatalf("Cut of hello = %v, %d", hello, e)
	}
	you, e := c.Cut(on(1, "you"), false, 3)
	if e != api.OK || !samePieces(you, []api.Piece{part(0, 1, 1, "BE", "you")}) {
		t.Fatalf("Cut of you = %v, %d", you, e)
	}
	now, e := c.Cut(on(1, "now"), true, 256)
	if e != api.OK || !samePieces(now, []api.Piece{loose(0, 1, 0, "BE", "now")}) {
		t.Fatalf("Cut of now = %v, %d", now, e)
	}
	b := NewBox()
	all := append(hello, you...)
	for i := range all {
		all[i].TSN = uint32(5 + i)
	}
	puts(t, b, all[3])
	holds(t, b, 0)
	puts(t, b, all[2])
	puts(t, b, all[0])
	holds(t, b, 2)
	puts(t, b, all[1], on(1, "hello"), on(1, "you"))
	holds(t, b, 0)
}

// TestCut holds Cut against the plain one, for messages and sizes that go into each other or don't.
func TestCut(t *testing.T) {
	c, p := NewCutter(), plainCutter{}
	for _, length := range []int{1, 2, 3, 7, 255, 256, 257, 511, 512, 513, 4095, 4096} {
		for _, size := range []int{1, 2, 3, 7, 100, 254, 255, 256} {
			for i, stream := range []uint16{0, 1, 6, 7, 7} {
				m := api.Message{Stream: stream, Bytes: letters(length)}
				got, e := c.Cut(m, i%2 == 0, size)
				want, wrong := p.cut(m, i%2 == 0, size)
				if e != wrong || e != api.OK || !samePieces(got, want) {
					t.Fatalf("Cut of %d bytes on stream %d by %d = %v, %d, want %v", length, stream, size, got, e, want)
				}
			}
		}
	}
}

// TestCutOfWhole: each piece but the last one is of size bytes, and together they are the message.
func TestCutOfWhole(t *testing.T) {
	for length := 1; length <= 600; length++ {
		for _, size := range []int{1, 16, 255, 256} {
			l, e := NewCutter().Cut(api.Message{Bytes: letters(length)}, true, size)
			var whole []byte
			for i, p := range l {
				if rest := length - i*size; len(p.Bytes) != min(size, rest) || p.Begin != (i == 0) || p.End != (rest <= size) {
					t.Fatalf("piece %d of %d bytes by %d: %v", i, length, size, p)
				}
				whole = append(whole, p.Bytes...)
			}
			if e != api.OK || !bytes.Equal(whole, letters(length)) {
				t.Fatalf("Cut of %d bytes by %d = %v, %d", length, size, l, e)
			}
		}
	}
}

func TestCutOfWrongArguments(t *testing.T) {
	cases := []struct {
		length int
		stream uint16
		size   int
		want   api.Errno
	}{
		{0, 0, 1, api.ErrArg},
		{0, 8, 0, api.ErrArg},
		{1, 8, 1, api.ErrArg},
		{1, 9, 256, api.ErrArg},
		{1, 255, 256, api.ErrArg},
		{1, 256, 256, api.ErrArg},
		{1, 1 << 15, 256, api.ErrArg},
		{1, 65535, 256, api.ErrArg},
		{1, 7, 0, api.ErrArg},
		{1, 7, -1, api.ErrArg},
		{1, 7, -256, api.ErrArg},
		{1, 7, math.MinInt, api.ErrArg},
		{1, 7, 257, api.ErrArg},
		{1, 7, 4096, api.ErrArg},
		{1, 7, 1<<32 + 1, api.ErrArg},
		{1, 7, math.MaxInt, api.ErrArg},
		{4097, 7, 0, api.ErrArg},
		{4097, 7, 257, api.ErrArg},
		{4097, 8, 1, api.ErrArg},
		{4097, 7, 1, api.ErrLarge},
		{4097, 0, 256, api.ErrLarge},
		{1 << 16, 0, 256, api.ErrLarge},
		{1<<16 + 1, 3, 256, api.ErrLarge},
	}
	c := NewCutter()
	for _, x := range cases {
		for _, unordered := range []bool{false, true} {
			l, e := c.Cut(api.Message{Stream: x.stream, Bytes: letters(x.length)}, unordered, x.size)
			if l != nil || e != x.want {
				t.Errorf("Cut of %d bytes on stream %d by %d = %v, %d, want %d", x.length, x.stream, x.size, l, e, x.want)
			}
		}
	}
	if l, e := c.Cut(api.Message{Bytes: []byte{}}, false, 1); l != nil || e != api.ErrArg {
		t.Errorf("Cut of an empty slice = %v, %d", l, e)
	}
	for stream := range uint16(8) {
		cuts(t, c, stream, false, 0) // none of the errors counted
	}
}

// TestCutNumbers: each stream counts its own ordered messages, whatever is unordered or wrong between them.
func TestCutNumbers(t *testing.T) {
	c := NewCutter()
	for i := range uint16(20) {
		for stream := range uint16(8) {
			for n := range stream + 1 {
				cuts(t, c, stream, false, i*(stream+1)+n)
				cuts(t, c, stream, true, 0)
				c.Cut(on(stream, ""), false, 1)
				c.Cut(on(stream, "x"), false, 257)
				c.Cut(api.Message{Stream: stream, Bytes: letters(4097)}, false, 9)
			}
		}
	}
}

// TestCutNumbersGoRound: behind 65535 comes 0, on that stream alone.
func TestCutNumbersGoRound(t *testing.T) {
	c := NewCutter()
	cuts(t, c, 2, false, 0)
	for i := range 65536 + 3 {
		cuts(t, c, 7, false, uint16(i))
	}
	cuts(t, c, 7, true, 0)
	cuts(t, c, 7, false, 3)
	cuts(t, c, 2, false, 1)
}

func TestPutOfWrongPieces(t *testing.T) {
	b := NewBox()
	puts(t, b, part(9, 0, 0, "B", "a"))
	long := string(letters(257))
	for _, p := range []api.Piece{
		part(1, 0, 0, "BE", ""),
		part(1, 0, 0, "BE", long),
		part(1, 0, 0, "", string(letters(4096))),
		part(1, 8, 0, "BE", "a"),
		loose(1, 8, 0, "BE", "a"),
		part(1, 256, 0, "BE", "a"),
		part(1, 1<<15, 0, "BE", "a"),
		loose(1, 65535, 0, "B", "a"),
		part(9, 0, 0, "BE", ""),   // the TSN is held too
		part(9, 0, 0, "BE", long), // and here
		part(9, 8, 0, "BE", "a"),  // and here
		{},
		{Bytes: []byte{}},
	} {
		refuses(t, b, api.ErrForm, p)
	}
	holds(t, b, 1)
	for _, p := range []api.Piece{part(9, 0, 0, "B", "a"), part(9, 7, 5, "BE", "b"), loose(9, 0, 0, "BE", "c"), part(9, 0, 0, "E", "d")} {
		refuses(t, b, api.ErrThere, p)
	}
	puts(t, b, part(10, 0, 0, "E", "z"), on(0, "az"))
}

// TestPutOfEdges: pieces of 1 byte and of MaxPiece bytes, on the first stream and the last one.
func TestPutOfEdges(t *testing.T) {
	for _, length := range []int{1, 2, 255, 256} {
		for _, stream := range []uint16{0, 1, 6, 7} {
			for _, first := range firsts {
				b := NewBox()
				text := string(letters(length))
				puts(t, b, loose(first, stream, 65535, "BE", text), on(stream, text))
				puts(t, b, part(first, stream, 0, "B", text))
				puts(t, b, part(first+1, stream, 0, "E", text), on(stream, text+text))
				holds(t, b, 0)
			}
		}
	}
}

// orders calls f with each order of the numbers below n.
func orders(n int, f func([]int)) {
	var list []int
	var next func()
	next = func() {
		if len(list) == n {
			f(list)
			return
		}
		for i := range n {
			if !slices.Contains(list, i) {
				list = append(list, i)
				next()
				list = list[:len(list)-1]
			}
		}
	}
	next()
}

// TestPutInAnyOrder: all orders of six pieces of three messages, one of them unordered.
func TestPutInAnyOrder(t *testing.T) {
	for _, first := range firsts {
		list := []api.Piece{
			part(first, 3, 0, "B", "on"), part(first+1, 3, 0, "E", "e"),
			loose(first+2, 3, 0, "B", "lo"), loose(first+3, 3, 0, "", "o"), loose(first+4, 3, 0, "E", "se"),
			part(first+5, 3, 1, "BE", "two"),
		}
		orders(len(list), func(order []int) {
			x := both{b: NewBox()}
			var all []string
			for _, i := range order {
				for _, m := range x.put(t, list[i]) {
					all = append(all, string(m.Bytes))
				}
			}
			if one, two := slices.Index(all, "one"), slices.Index(all, "two"); len(all) != 3 || one < 0 || two < one || !slices.Contains(all, "loose") {
				t.Errorf("in the order %v: %q", order, all)
			}
			holds(t, x.b, 0)
		})
	}
}

// TestPutOfAnyMarks: four pieces with all kinds of Begin and End, in all orders.
func TestPutOfAnyMarks(t *testing.T) {
	marks := []string{"", "B", "E", "BE"}
	for _, unordered := range []bool{false, true} {
		for n := range 256 {
			orders(4, func(order []int) {
				x := both{b: NewBox()}
				for _, i := range order {
					p := part(math.MaxUint32-1+uint32(i), 0, 0, marks[n>>(2*i)&3], "abcd"[i:i+1])
					p.Unordered = unordered
					x.put(t, p)
				}
			})
		}
	}
}

// TestMarksWithin: a second Begin begins another message, and what is behind an End is another one.
func TestMarksWithin(t *testing.T) {
	b := NewBox()
	puts(t, b, loose(4, 0, 0, "B", "a"))
	puts(t, b, loose(6, 0, 0, "E", "c"))
	puts(t, b, loose(5, 0, 0, "B", "b"), on(0, "bc"))
	holds(t, b, 1)
	puts(t, b, loose(5, 0, 0, "E", "d"), on(0, "ad"))
	puts(t, b, loose(8, 0, 0, "E", "h"))
	puts(t, b, loose(6, 0, 0, "B", "f"))
	puts(t, b, loose(7, 0, 0, "E", "g"), on(0, "fg"))
	holds(t, b, 1)
	puts(t, b, loose(7, 0, 0, "BE", "i"), on(0, "i"))
	holds(t, b, 1)
	puts(t, b, loose(7, 0, 0, "B", "j"), on(0, "jh"))
	holds(t, b, 0)
}

// TestPiecesThatPart: pieces that differ in Stream, Seq or Unordered are none of one message, wherever the odd one is.
func TestPiecesThatPart(t *testing.T) {
	odd := []func(*api.Piece){
		func(p *api.Piece) { p.Stream = 1 },
		func(p *api.Piece) { p.Seq = 1 },
		func(p *api.Piece) { p.Seq = 256 },
		func(p *api.Piece) { p.Unordered = !p.Unordered },
	}
	for _, first := range firsts {
		for _, unordered := range []bool{false, true} {
			for which := range 3 * len(odd) {
				orders(3, func(order []int) {
					x := both{b: NewBox()}
					for _, i := range order {
						p := part(first+uint32(i), 0, 0, []string{"B", "", "E"}[i], "abc"[i:i+1])
						p.Unordered = unordered
						if i == which%3 {
							odd[which/3](&p)
						}
						if m := x.put(t, p); m != nil {
							t.Errorf("Put(%v) = %v, though its neighbours are of another message", p, m)
						}
					}
					holds(t, x.b, 3)
				})
			}
		}
	}
}

// TestPiecesApart: a TSN that is missing, or on the other side of the circle, parts too.
func TestPiecesApart(t *testing.T) {
	for _, first := range firsts {
		b := NewBox()
		puts(t, b, part(first, 0, 0, "B", "a"))
		puts(t, b, part(first+2, 0, 0, "E", "c"))
		puts(t, b, part(first+1+1<<31, 0, 0, "", "x"))
		puts(t, b, part(first+1+1<<16, 0, 0, "", "y"))
		puts(t, b, part(first-1, 0, 0, "E", "z"))
		holds(t, b, 5)
		puts(t, b, part(first+1, 0, 0, "", "b"), on(0, "abc"))
		holds(t, b, 3)
	}
}

// TestOrdered: an ordered message waits for those before it on its stream, and for no others.
func TestOrdered(t *testing.T) {
	b := NewBox()
	puts(t, b, part(1, 2, 2, "BE", "two"))
	puts(t, b, part(2, 2, 4, "BE", "four"))
	puts(t, b, part(3, 2, 1, "BE", "one"))
	holds(t, b, 0)
	puts(t, b, part(4, 3, 0, "BE", "other"), on(3, "other"))
	puts(t, b, loose(5, 2, 0, "BE", "loose"), on(2, "loose"))
	puts(t, b, loose(5, 2, 1, "BE", "loose"), on(2, "loose"))
	puts(t, b, part(6, 2, 0, "BE", "zero"), on(2, "zero"), on(2, "one"), on(2, "two"))
	puts(t, b, part(7, 2, 5, "BE", "five"))
	puts(t, b, part(8, 2, 3, "BE", "three"), on(2, "three"), on(2, "four"), on(2, "five"))
	puts(t, b, part(9, 3, 1, "BE", "more"), on(3, "more"))
	puts(t, b, part(9, 2, 6, "BE", "six"), on(2, "six"))
}

// TestWaitingTwice: of two messages with one Seq the first one stays, and a message whose Seq has passed waits for its next turn.
func TestWaitingTwice(t *testing.T) {
	b := NewBox()
	puts(t, b, part(1, 0, 1, "BE", "first"))
	puts(t, b, part(2, 0, 1, "BE", "second"))
	puts(t, b, part(3, 0, 1, "B", "th"))
	holds(t, b, 1)
	puts(t, b, part(4, 0, 1, "E", "ird"))
	holds(t, b, 0)
	puts(t, b, part(5, 1, 1, "BE", "of another stream"))
	puts(t, b, part(1, 0, 0, "BE", "zero"), on(0, "zero"), on(0, "first"))
	puts(t, b, part(1, 0, 1, "BE", "late"))
	puts(t, b, part(1, 0, 0, "BE", "later"))
	puts(t, b, part(1, 0, 0, "BE", "latest"))
	puts(t, b, part(1, 1, 0, "BE", "z"), on(1, "z"), on(1, "of another stream"))
	for seq := uint16(2); seq != 0; seq++ {
		want := []api.Message{on(0, "x")}
		if seq == 65535 {
			want = append(want, on(0, "later"), on(0, "late"))
		}
		puts(t, b, part(1, 0, seq, "BE", "x"), want...)
	}
	puts(t, b, part(1, 0, 2, "BE", "again"), on(0, "again"))
}

// TestSeqsGoRound: what waits beyond 65535 follows it; and all 65536 may come at once.
func TestSeqsGoRound(t *testing.T) {
	b := NewBox()
	for seq := range uint16(65534) {
		puts(t, b, part(7, 5, seq, "BE", "a"), on(5, "a"))
	}
	puts(t, b, part(7, 5, 0, "BE", "0"))
	puts(t, b, part(7, 5, 1, "BE", "1"))
	puts(t, b, part(7, 5, 65535, "BE", "65535"))
	puts(t, b, part(7, 5, 65534, "BE", "65534"), on(5, "65534"), on(5, "65535"), on(5, "0"), on(5, "1"))
	var want []api.Message
	for i := range 65535 {
		puts(t, b, part(7, 5, uint16(i+3), "BE", "a"))
		want = append(want, on(5, "a"))
	}
	puts(t, b, part(7, 5, 2, "BE", "b"), append([]api.Message{on(5, "b")}, want...)...)
	puts(t, b, part(7, 5, 2, "BE", "c"), on(5, "c"))
	if len(b.waiting) != 0 || len(b.pieces) != 0 || len(b.taken) != 0 {
		t.Errorf("%d messages and %d pieces are kept", len(b.waiting), len(b.pieces))
	}
}

// full returns a Box that holds 512 pieces of one message, all but the first of its 513.
func full(first uint32) (*Box, []byte) {
	b := NewBox()
	var all []byte
	for i := range 512 {
		text := letters(i%256 + 1)
		all = append(all, text...)
		marks := ""
		if i == 511 {
			marks = "E"
		}
		b.Put(part(first+uint32(i), 4, 0, marks, string(text)))
	}
	return b, all
}

// TestFull: with MaxAhead pieces held nothing goes in, even what would make room.
func TestFull(t *testing.T) {
	for _, first := range append(firsts, math.MaxUint32-255) {
		b, _ := full(first)
		holds(t, b, 512)
		refuses(t, b, api.ErrFull, part(first-1, 4, 0, "B", "x"))
		refuses(t, b, api.ErrFull, part(first+512, 4, 0, "BE", "x"))
		refuses(t, b, api.ErrFull, loose(first+1<<31, 0, 0, "BE", "x"))
		refuses(t, b, api.ErrThere, part(first, 4, 0, "B", "x"))
		refuses(t, b, api.ErrThere, loose(first+511, 0, 0, "BE", "x"))
		refuses(t, b, api.ErrForm, part(first, 8, 0, "BE", "x"))
		refuses(t, b, api.ErrForm, part(first-1, 0, 0, "BE", ""))
		holds(t, b, 512)
	}
}

// TestFullButOne: the piece number MaxAhead goes in, and completes a message of that many, longer than Cut would make one.
func TestFullButOne(t *testing.T) {
	for _, first := range append(firsts, math.MaxUint32-255) {
		for _, last := range []int{0, 1, 255, 510, 511} {
			b := NewBox()
			var all []byte
			put := func(i int, want ...api.Message) {
				p := api.Piece{TSN: first + uint32(i), Stream: 6, Begin: i == 0, End: i == 511, Bytes: all[256*i : 256*i+256]}
				puts(t, b, p, want...)
			}
			all = letters(512 * 256)
			for i := range 512 {
				if i != last {
					put(i)
				}
			}
			holds(t, b, 511)
			put(last, api.Message{Stream: 6, Bytes: all})
			holds(t, b, 0)
			puts(t, b, part(first, 6, 1, "BE", "x"), on(6, "x"))
		}
	}
}

// TestWaitingTakesNoRoom: messages that wait hold no TSN, and are none of the held pieces.
func TestWaitingTakesNoRoom(t *testing.T) {
	b := NewBox()
	want := []api.Message{on(0, "first")}
	for seq := 1; seq <= 1000; seq++ {
		puts(t, b, part(3, 0, uint16(seq), "B", "a"))
		puts(t, b, part(4, 0, uint16(seq), "E", "b"))
		holds(t, b, 0)
		want = append(want, on(0, "ab"))
	}
	for tsn := range uint32(511) {
		puts(t, b, loose(tsn, 0, 0, "", "x"))
	}
	holds(t, b, 511)
	puts(t, b, part(600, 0, 0, "BE", "first"), want...)
	holds(t, b, 511)
	puts(t, b, part(600, 0, 0, "B", "x"))
	holds(t, b, 512)
}

// TestErrorsChangeNothing: behind each error all goes on as without it.
func TestErrorsChangeNothing(t *testing.T) {
	x := both{b: NewBox()}
	wrong := []api.Piece{part(5, 0, 0, "BE", ""), part(7, 8, 0, "BE", "a"), part(5, 0, 0, "BE", string(letters(257))), part(6, 0, 0, "BE", "there")}
	for _, p := range []api.Piece{part(6, 0, 0, "", "b"), part(7, 0, 0, "E", "c"), part(5, 0, 0, "B", "a"), part(6, 0, 2, "B", "g"), part(7, 0, 2, "E", "h"), part(5, 0, 1, "BE", "d")} {
		for _, w := range wrong {
			x.put(t, w)
			x.put(t, w)
		}
		x.put(t, p)
	}
}

func TestNil(t *testing.T) {
	var c *Cutter
	for _, size := range []int{0, 1, 256, 257} {
		for _, length := range []int{0, 1, 4097} {
			if l, e := c.Cut(api.Message{Stream: 1, Bytes: letters(length)}, length == 1, size); l != nil || e != api.ErrArg {
				t.Errorf("Cut of no Cutter = %v, %d", l, e)
			}
		}
	}
	var b *Box
	for _, p := range []api.Piece{{}, part(0, 0, 0, "BE", "a"), part(1, 8, 0, "B", "a"), loose(2, 0, 0, "BE", "a")} {
		if m, e := b.Put(p); m != nil || e != api.ErrArg {
			t.Errorf("Put of no Box = %v, %d", m, e)
		}
	}
	holds(t, b, 0)
}

// TestZeroValue: a Cutter or Box that New didn't make is a new one.
func TestZeroValue(t *testing.T) {
	c := new(Cutter)
	cuts(t, c, 7, false, 0)
	cuts(t, c, 7, false, 1)
	b := new(Box)
	holds(t, b, 0)
	refuses(t, b, api.ErrForm, api.Piece{})
	puts(t, b, part(1, 0, 1, "BE", "b"))
	puts(t, b, part(1, 0, 0, "BE", "a"), on(0, "a"), on(0, "b"))
	holds(t, new(Box), 0)
}

// TestNew: each call makes another one, with nothing in it.
func TestNew(t *testing.T) {
	c, d := NewCutter(), NewCutter()
	cuts(t, c, 1, false, 0)
	cuts(t, c, 1, false, 1)
	cuts(t, d, 1, false, 0)
	a, b := NewBox(), NewBox()
	holds(t, a, 0)
	puts(t, a, part(1, 0, 0, "B", "a"))
	puts(t, a, part(9, 0, 1, "BE", "b"))
	holds(t, b, 0)
	puts(t, b, part(2, 0, 0, "E", "x"))
	puts(t, b, part(1, 0, 0, "B", "y"), on(0, "yx"))
	puts(t, b, part(1, 0, 1, "BE", "z"), on(0, "z"))
	puts(t, a, part(2, 0, 0, "E", "c"), on(0, "ac"), on(0, "b"))
}

// TestArgumentsAreLeftAlone: neither the bytes nor the capacity behind them is written to.
func TestArgumentsAreLeftAlone(t *testing.T) {
	room := letters(600)
	c, b := NewCutter(), NewBox()
	for _, size := range []int{1, 100, 256} {
		c.Cut(api.Message{Bytes: room[10:300]}, false, size)
		c.Cut(api.Message{Bytes: room[10:300:310]}, true, size)
	}
	for i, p := range []api.Piece{loose(1, 0, 0, "B", ""), loose(2, 0, 0, "", ""), loose(3, 0, 0, "E", ""), part(4, 0, 1, "BE", ""), part(5, 0, 0, "BE", "")} {
		p.Bytes = room[i*50 : i*50+50]
		b.Put(p)
	}
	if !bytes.Equal(room, letters(600)) {
		t.Errorf("the arguments' memory was written to")
	}
}

// TestArgumentsAreNotKept: what is done to them later shows nowhere.
func TestArgumentsAreNotKept(t *testing.T) {
	text := []byte("hello")
	l, _ := NewCutter().Cut(api.Message{Bytes: text}, false, 2)
	copy(text, "HELLO")
	if !samePieces(l, []api.Piece{part(0, 0, 0, "B", "he"), part(0, 0, 0, "", "ll"), part(0, 0, 0, "E", "o")}) {
		t.Errorf("Cut kept its argument: %v", l)
	}
	b := NewBox()
	one, two, three := []byte("one"), []byte("two"), []byte("three")
	b.Put(api.Piece{TSN: 1, Seq: 1, Begin: true, End: true, Bytes: one})
	copy(one, "ONE")
	b.Put(api.Piece{TSN: 2, Begin: true, Bytes: two})
	copy(two, "TWO")
	got, _ := b.Put(api.Piece{TSN: 3, End: true, Bytes: three})
	copy(three, "THREE")
	if !sameMessages(got, []api.Message{on(0, "twothree"), on(0, "one")}) {
		t.Errorf("Put kept its argument: %v", got)
	}
	got, _ = b.Put(api.Piece{Begin: true, End: true, Unordered: true, Bytes: one})
	copy(one, "two")
	if !sameMessages(got, []api.Message{on(0, "ONE")}) {
		t.Errorf("Put kept its argument: %v", got)
	}
}

// spoil writes over a slice and the capacity behind it.
func spoil(b []byte) {
	b = b[:cap(b)]
	for i := range b {
		b[i] = '#'
	}
}

// TestResultsShareNoMemory: nothing that is done to one result shows in another one, or in what is kept.
func TestResultsShareNoMemory(t *testing.T) {
	c := NewCutter()
	m := api.Message{Bytes: []byte("hello")}
	l, _ := c.Cut(m, false, 2)
	for i := range l {
		rest := slices.Clone(l[i+1:])
		want := make([]string, len(rest))
		for k := range rest {
			want[k] = string(rest[k].Bytes)
		}
		spoil(l[i].Bytes)
		for k := range rest {
			if string(rest[k].Bytes) != want[k] {
				t.Errorf("pieces %d and %d share memory", i, i+1+k)
			}
		}
	}
	if string(m.Bytes) != "hello" {
		t.Errorf("a piece shares memory with its message: %q", m.Bytes)
	}
	b := NewBox()
	puts(t, b, part(1, 0, 1, "BE", "two"))
	puts(t, b, part(2, 0, 3, "BE", "four"))
	puts(t, b, loose(9, 0, 0, "B", "lo"))
	got, _ := b.Put(part(3, 0, 0, "BE", "one"))
	spoil(got[0].Bytes)
	if string(got[1].Bytes) != "two" {
		t.Errorf("two messages share memory: %q", got[1].Bytes)
	}
	spoil(got[1].Bytes)
	got[0], got[1] = on(7, "x"), on(7, "y")
	puts(t, b, loose(10, 0, 0, "E", "ose"), on(0, "loose"))
	puts(t, b, part(3, 0, 2, "BE", "three"), on(0, "three"), on(0, "four"))
}

// random returns some pieces of messages with consecutive TSNs.
func random(r *rand.Rand, c *Cutter, first uint32, messages, streams int) []api.Piece {
	var list []api.Piece
	for range messages {
		m := api.Message{Stream: uint16(r.Intn(streams)), Bytes: letters(1 + r.Intn(40))}
		l, _ := c.Cut(m, r.Intn(4) == 0, 1+r.Intn(20))
		list = append(list, l...)
	}
	for i := range list {
		list[i].TSN = first + uint32(i)
	}
	return list
}

// TestAgainstPlain holds a Box against the plain one, for messages whose pieces come in any order, some twice, some changed.
func TestAgainstPlain(t *testing.T) {
	for i, first := range firsts {
		r := rand.New(rand.NewSource(int64(i)))
		x, c := both{b: NewBox()}, NewCutter()
		for range 60 {
			list := random(r, c, first, 12, 1+i%8)
			first += uint32(len(list))
			r.Shuffle(len(list), func(i, j int) { list[i], list[j] = list[j], list[i] })
			for _, p := range list {
				switch r.Intn(60) {
				case 0:
					p.Begin = !p.Begin
				case 1:
					p.End = !p.End
				case 2:
					p.Unordered = !p.Unordered
				case 3:
					p.Seq += uint16(r.Intn(3)) - 1
				case 4:
					p.Stream += uint16(r.Intn(3)) - 1
				case 5:
					p.Bytes = letters(r.Intn(3) * 128)
				case 6:
					p.TSN += uint32(r.Intn(7)) - 3
				}
				x.put(t, p)
				if r.Intn(10) == 0 {
					x.put(t, p)
				}
			}
		}
	}
}

// TestAgainstPlainOfFewNumbers: pieces of so few kinds that all meet.
func TestAgainstPlainOfFewNumbers(t *testing.T) {
	for i, first := range firsts {
		r := rand.New(rand.NewSource(int64(i)))
		x := both{b: NewBox()}
		for range 8000 {
			x.put(t, api.Piece{TSN: first + uint32(r.Intn(9)), Stream: uint16(r.Intn(2)), Seq: uint16(r.Intn(2)) - uint16(r.Intn(2)), Begin: r.Intn(2) == 0, End: r.Intn(2) == 0, Unordered: r.Intn(4) == 0, Bytes: letters(r.Intn(20))})
		}
	}
}

// arrivals is what was sent, or came: the ordered messages of each stream, and the unordered ones of all.
type arrivals struct {
	ordered [8][]string
	loose   []string
}

func (a *arrivals) add(m api.Message) {
	if text := string(m.Bytes); text[0] == 'L' {
		a.loose = append(a.loose, text)
	} else {
		a.ordered[m.Stream] = append(a.ordered[m.Stream], text)
	}
}

// TestAllArrives: of what is cut, each message comes out once, and the ordered ones of a stream in their order.
func TestAllArrives(t *testing.T) {
	for i, first := range firsts {
		r := rand.New(rand.NewSource(int64(i)))
		c, b := NewCutter(), NewBox()
		var sent, came arrivals
		var list []api.Piece
		for n := range 300 {
			unordered := n%3 == 0
			kind := byte('O')
			if unordered {
				kind = 'L'
			}
			m := api.Message{Stream: uint16(r.Intn(8)), Bytes: append([]byte{kind, byte(n), byte(n >> 8)}, letters(r.Intn(4094))...)}
			l, _ := c.Cut(m, unordered, 200+r.Intn(57))
			list = append(list, l...)
			sent.add(m)
		}
		for n := range list {
			list[n].TSN = first + uint32(n)
		}
		for some := range slices.Chunk(list, 200) {
			r.Shuffle(len(some), func(i, j int) { some[i], some[j] = some[j], some[i] })
		}
		for _, p := range list {
			got, e := b.Put(p)
			if e != api.OK {
				t.Fatalf("Put = %d with %d pieces held", e, b.Held())
			}
			for _, m := range got {
				came.add(m)
			}
		}
		holds(t, b, 0)
		slices.Sort(sent.loose)
		slices.Sort(came.loose)
		if !reflect.DeepEqual(sent, came) {
			t.Errorf("what came is not what was sent: %d unordered messages of %d, and %d of %d on stream 0", len(came.loose), len(sent.loose), len(came.ordered[0]), len(sent.ordered[0]))
		}
	}
}

// TestTwiceTheSame: the same calls have the same results, in whatever order a map is gone through.
func TestTwiceTheSame(t *testing.T) {
	tell := func() (all []api.Message) {
		r := rand.New(rand.NewSource(3))
		b, c := NewBox(), NewCutter()
		list := random(r, c, math.MaxUint32-20, 60, 3)
		r.Shuffle(len(list), func(i, j int) { list[i], list[j] = list[j], list[i] })
		for _, p := range list {
			m, _ := b.Put(p)
			all = append(all, m...)
		}
		return all
	}
	want := tell()
	for range 20 {
		if got := tell(); !sameMessages(got, want) || len(got) != 60 {
			t.Fatalf("%v, and then %v", want, got)
		}
	}
}

// FuzzAnyArguments holds the calls against the plain ones: each four bytes are a piece, or a message that is cut.
func FuzzAnyArguments(f *testing.F) {
	f.Add([]byte(nil), uint32(0), uint16(0), 0)
	f.Add([]byte{0, 0, 1, 2, 1, 0, 0, 1, 2, 0, 2, 3, 3, 1, 7, 9}, uint32(4294967295), uint16(65535), 2)
	for i, x := range firsts {
		f.Add([]byte{1, 0, 2, 5, 0, 0, 1, 255, 2, 16, 3, 4, 0, 32, 3, 4, 9, 64, 3, 0, 8, 128, 255, 255}, x, uint16(i), 254+i)
	}
	f.Fuzz(func(t *testing.T, steps []byte, first uint32, any uint16, size int) {
		x, c, p := both{b: NewBox()}, NewCutter(), plainCutter{}
		steps = steps[:min(len(steps), 1200)]
		for ; len(steps) >= 4; steps = steps[4:] {
			kind, marks := steps[1], steps[2]
			piece := api.Piece{TSN: first + uint32(steps[0]), Stream: uint16(kind & 1), Seq: uint16(kind >> 1 & 3), Begin: marks&1 != 0, End: marks&2 != 0, Unordered: marks&12 == 12, Bytes: letters(int(steps[3]))}
			if kind&224 == 224 {
				piece.Stream, piece.Seq = any, uint16(first)
			}
			if marks&240 == 240 {
				piece.Bytes = letters(int(any))
			}
			x.put(t, piece)
			m := api.Message{Stream: piece.Stream, Bytes: piece.Bytes}
			got, e := c.Cut(m, piece.Unordered, size)
			want, wrong := p.cut(m, piece.Unordered, size)
			if e != wrong || !samePieces(got, want) {
				t.Fatalf("Cut(%v, %t, %d) = %v, %d, want %v, %d", m, piece.Unordered, size, got, e, want, wrong)
			}
		}
	})
}
