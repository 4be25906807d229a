package sendq

import (
	"bytes"
	"math"
	"math/rand"
	"reflect"
	"slices"
	"testing"

	"trunkline/api"
)

// firsts: where a Queue begins, so that its numbers go round early, late or not at all, or pass the middle.
var firsts = []uint32{0, 1, 2, 5, 1 << 16, math.MaxInt32 - 1, math.MaxInt32, math.MaxInt32 + 1, math.MaxInt32 + 2, math.MaxUint32 - 300, math.MaxUint32 - 5, math.MaxUint32 - 1, math.MaxUint32}

// somePaths: those that acked has, and others.
var somePaths = []int{0, 1, 2, 3, -1, -2, 1 << 40, math.MaxInt, math.MinInt}

// plainPiece is a piece that was pushed, with all that became of it.
type plainPiece struct {
	piece                      api.Piece
	sent, final, acked, marked bool
	path, misses               int
}

// plainQueue does what the chapter asks in the plainest way: it keeps all that was ever pushed, and looks through it.
type plainQueue struct {
	first uint32
	all   []*plainPiece
}

func waits(x *plainPiece) bool       { return !x.sent }
func outstanding(x *plainPiece) bool { return x.sent && !x.final }
func lost(x *plainPiece) bool        { return outstanding(x) && x.marked }
func flies(x *plainPiece) bool       { return outstanding(x) && !x.acked && !x.marked }

// those returns the pieces of which this is so.
func (p *plainQueue) those(is func(x *plainPiece) bool) []*plainPiece {
	var list []*plainPiece
	for _, x := range p.all {
		if is(x) {
			list = append(list, x)
		}
	}
	return list
}

func (p *plainQueue) push(x api.Piece) (uint32, api.Errno) {
	if len(x.Bytes) < 1 || len(x.Bytes) > 256 {
		return 0, api.ErrForm
	}
	if len(p.those(waits))+len(p.those(outstanding)) == 256 {
		return 0, api.ErrFull
	}
	x.TSN = p.first + uint32(len(p.all))
	p.all = append(p.all, &plainPiece{piece: x})
	return x.TSN, api.OK
}

func (p *plainQueue) next(path int) (api.Piece, bool) {
	for _, is := range []func(x *plainPiece) bool{lost, waits} {
		if list := p.those(is); len(list) != 0 {
			x := list[0]
			x.sent, x.marked, x.path, x.misses = true, false, path, 0
			return x.piece, true
		}
	}
	return api.Piece{}, false
}

// sound: the conditions of Gaps, as chapter 7 has them.
func sound(gaps []api.Gap) bool {
	free := 2 // the least number that the next Gap may begin at
	for _, g := range gaps {
		if int(g.From) < free || g.To < g.From {
			return false
		}
		free = int(g.To) + 2
	}
	return len(gaps) <= 64
}

// known reports whether cum is one of q's Cum and the outstanding TSNs.
func (p *plainQueue) known(cum uint32) bool {
	if cum == p.cum() {
		return true
	}
	return slices.ContainsFunc(p.those(outstanding), func(x *plainPiece) bool { return x.piece.TSN == cum })
}

func (p *plainQueue) heard(h api.Heard) ([]int, []int, api.Errno) {
	if !sound(h.Gaps) {
		return nil, nil, api.ErrForm
	}
	if !p.known(h.Cum) {
		return nil, nil, api.ErrOld
	}
	told := map[uint32]bool{}
	for _, g := range h.Gaps {
		for d := int(g.From); d <= int(g.To) && d <= 600; d++ {
			told[h.Cum+uint32(d)] = true
		}
	}
	acked := []int{0, 0}
	final := p.cum() != h.Cum
	for _, x := range p.those(outstanding) {
		now := final || told[x.piece.TSN]
		if now && !x.acked && (x.path == 0 || x.path == 1) {
			acked[x.path] += len(x.piece.Bytes)
		}
		x.acked, x.final = now, final
		if now {
			x.marked = false
		}
		if x.piece.TSN == h.Cum {
			final = false
		}
	}
	return acked, p.miss(), api.OK
}

// miss counts the misses: a piece gets one if any later one is acknowledged.
func (p *plainQueue) miss() []int {
	fast := map[int]bool{}
	list := p.those(outstanding)
	for i, x := range list {
		later := slices.ContainsFunc(list[i:], func(y *plainPiece) bool { return y.acked })
		if x.acked || x.marked || !later {
			continue
		}
		x.misses++
		if x.misses == 3 {
			x.misses, x.marked = 0, true
			fast[x.path] = true
		}
	}
	var paths []int
	for path := range fast {
		paths = append(paths, path)
	}
	slices.Sort(paths)
	return paths
}

func (p *plainQueue) late(path int) int {
	list := p.those(func(x *plainPiece) bool { return flies(x) && x.path == path })
	for _, x := range list {
		x.marked = true
	}
	return len(list)
}

func (p *plainQueue) flight(path int) int {
	sum := 0
	for _, x := range p.those(flies) {
		if x.path == path {
			sum += len(x.piece.Bytes)
		}
	}
	return sum
}

func (p *plainQueue) cum() uint32 {
	return p.first - 1 + uint32(len(p.those(func(x *plainPiece) bool { return x.final })))
}

// both is a Queue and the plain one that goes with it: each call is held against the plain one's.
type both struct {
	q *Queue
	p plainQueue
}

func from(first uint32) *both {
	return &both{New(first), plainQueue{first: first}}
}

func samePiece(a, b api.Piece) bool {
	alike := bytes.Equal(a.Bytes, b.Bytes)
	a.Bytes, b.Bytes = nil, nil
	return alike && reflect.DeepEqual(a, b)
}

// text returns n bytes, no two neighbours of which are the same.
func text(n int) []byte {
	return bytes.Repeat([]byte("abcdefghijk"), n/11+1)[:n]
}

// sized is a piece of n bytes.
func sized(n int) api.Piece {
	return api.Piece{Bytes: text(n)}
}

func (x *both) push(t *testing.T, p api.Piece) (uint32, api.Errno) {
	t.Helper()
	want, wrong := x.p.push(p)
	got, e := x.q.Push(p)
	if got != want || e != wrong {
		t.Fatalf("Push of %d bytes = %d, %d, want %d, %d", len(p.Bytes), got, e, want, wrong)
	}
	x.stands(t)
	return got, e
}

func (x *both) next(t *testing.T, path int) (api.Piece, bool) {
	t.Helper()
	want, there := x.p.next(path)
	got, ok := x.q.Next(path)
	if !samePiece(got, want) || ok != there {
		t.Fatalf("Next(%d) = %v, %v, want %v, %v", path, got, ok, want, there)
	}
	x.stands(t)
	return got, ok
}

func (x *both) heard(t *testing.T, h api.Heard) ([]int, []int, api.Errno) {
	t.Helper()
	acked, fast, wrong := x.p.heard(h)
	a, f, e := x.q.Heard(h)
	if !slices.Equal(a, acked) || !slices.Equal(f, fast) || e != wrong {
		t.Fatalf("Heard(%v) = %v, %v, %d, want %v, %v, %d", h, a, f, e, acked, fast, wrong)
	}
	x.stands(t)
	return a, f, e
}

func (x *both) late(t *testing.T, path int) int {
	t.Helper()
	want := x.p.late(path)
	got := x.q.Late(path)
	if got != want {
		t.Fatalf("Late(%d) = %d, want %d", path, got, want)
	}
	x.stands(t)
	return got
}

// stands holds all that can be seen without a change against the plain one's.
func (x *both) stands(t *testing.T) {
	t.Helper()
	waiting, out := x.q.Len()
	if w, o := len(x.p.those(waits)), len(x.p.those(outstanding)); waiting != w || out != o {
		t.Fatalf("Len() = %d, %d, want %d, %d", waiting, out, w, o)
	}
	if c := x.q.Cum(); c != x.p.cum() {
		t.Fatalf("Cum() = %d, want %d", c, x.p.cum())
	}
	for _, path := range somePaths {
		if f := x.q.Flight(path); f != x.p.flight(path) {
			t.Fatalf("Flight(%d) = %d, want %d", path, f, x.p.flight(path))
		}
	}
}

// sent pushes a piece for each of the paths, of 1 byte, 2, 3 .., and sends it there.
func (x *both) sent(t *testing.T, paths ...int) {
	t.Helper()
	for i, path := range paths {
		if _, e := x.push(t, sized(i+1)); e != api.OK {
			t.Fatalf("Push = %d", e)
		}
		if _, ok := x.next(t, path); !ok {
			t.Fatalf("Next(%d) = false", path)
		}
	}
}

// again checks the TSNs that Next has for a path, as distances from first.
func (x *both) again(t *testing.T, path int, distances ...int) {
	t.Helper()
	for _, d := range distances {
		if p, ok := x.next(t, path); !ok || p.TSN != x.p.first+uint32(d) {
			t.Fatalf("Next(%d) = %v, %v, want the TSN %d", path, p, ok, x.p.first+uint32(d))
		}
	}
}

// hears checks what Heard answers: cum is a distance from first, and the Gaps are pairs.
func (x *both) hears(t *testing.T, cum int, gaps []api.Gap, acked, fast []int) {
	t.Helper()
	h := api.Heard{Cum: x.p.first + uint32(cum), Window: 9, Gaps: gaps}
	a, f, e := x.heard(t, h)
	if e != api.OK || !slices.Equal(a, acked) || !slices.Equal(f, fast) {
		t.Fatalf("Heard(%v) = %v, %v, %d, want %v, %v, 0", h, a, f, e, acked, fast)
	}
}

// flown checks Flight of the paths 0, 1 ..
func (x *both) flown(t *testing.T, want ...int) {
	t.Helper()
	for path, n := range want {
		if f := x.q.Flight(path); f != n {
			t.Fatalf("Flight(%d) = %d, want %d", path, f, n)
		}
	}
}

// long checks Len.
func (x *both) long(t *testing.T, waiting, out int) {
	t.Helper()
	if w, o := x.q.Len(); w != waiting || o != out {
		t.Fatalf("Len() = %d, %d, want %d, %d", w, o, waiting, out)
	}
}

// gaps returns Gaps from their Froms and Tos.
func gaps(ends ...uint16) []api.Gap {
	var list []api.Gap
	for i := 0; i < len(ends); i += 2 {
		list = append(list, api.Gap{From: ends[i], To: ends[i+1]})
	}
	return list
}

// every returns n Gaps of one TSN each, as close as they may be.
func every(n int) []api.Gap {
	var list []api.Gap
	for i := range n {
		list = append(list, api.Gap{From: uint16(2 + 2*i), To: uint16(2 + 2*i)})
	}
	return list
}

// forFirsts runs a test from each of the firsts.
func forFirsts(t *testing.T, f func(t *testing.T, x *both)) {
	for _, first := range firsts {
		f(t, from(first))
	}
}

func TestExample(t *testing.T) {
	x := from(5)
	for i := range 6 {
		if tsn, e := x.push(t, sized(i+1)); tsn != uint32(5+i) || e != api.OK {
			t.Fatalf("Push = %d, %d", tsn, e)
		}
	}
	x.again(t, 0, 0, 1, 2, 3, 4)
	x.long(t, 1, 5)
	x.flown(t, 15)
	x.hears(t, 0, gaps(2, 2), []int{4, 0}, nil)
	x.hears(t, 0, gaps(2, 3), []int{4, 0}, nil)
	x.hears(t, 0, gaps(2, 4), []int{5, 0}, []int{0})
	x.again(t, 1, 1)
	if a, f, e := x.heard(t, api.Heard{Cum: 10}); a != nil || f != nil || e != api.ErrOld {
		t.Errorf("Heard of what was not sent = %v, %v, %d", a, f, e)
	}
}

// TestPushOfLengths: a piece has from 1 to 256 bytes; one that is refused takes no TSN.
func TestPushOfLengths(t *testing.T) {
	cases := []struct {
		length int
		want   api.Errno
	}{{0, api.ErrForm}, {1, api.OK}, {2, api.OK}, {255, api.OK}, {257, api.ErrForm}, {256, api.OK}, {258, api.ErrForm}, {512, api.ErrForm}, {4096, api.ErrForm}, {1 << 16, api.ErrForm}, {3, api.OK}}
	forFirsts(t, func(t *testing.T, x *both) {
		tsn := x.p.first
		for _, c := range cases {
			want := uint32(0)
			if c.want == api.OK {
				want = tsn
				tsn++
			}
			if got, e := x.push(t, sized(c.length)); got != want || e != c.want {
				t.Errorf("Push of %d bytes = %d, %d, want %d, %d", c.length, got, e, want, c.want)
			}
		}
		if _, e := x.push(t, api.Piece{Bytes: []byte{}}); e != api.ErrForm {
			t.Errorf("Push of an empty slice = %d", e)
		}
		x.long(t, 5, 0)
		x.again(t, 0, 0, 1, 2, 3, 4)
	})
}

// TestPushOfFields: the TSN is the next one, whatever the piece says; all else of it is kept.
func TestPushOfFields(t *testing.T) {
	list := []api.Piece{
		{TSN: 77, Stream: 3, Seq: 9, Begin: true, Bytes: []byte("a")},
		{TSN: 4294967295, Stream: 65535, Seq: 65535, End: true, Bytes: []byte("b")},
		{Unordered: true, Begin: true, End: true, Bytes: []byte("cd")},
		{TSN: 100, Stream: 8, Bytes: text(256)},
	}
	x := from(100)
	for _, p := range list {
		x.push(t, p)
	}
	for i, p := range list {
		p.TSN = uint32(100 + i)
		if got, ok := x.next(t, 1); !ok || !samePiece(got, p) {
			t.Errorf("Next = %v, %v, want %v", got, ok, p)
		}
	}
	x.late(t, 1)
	list[0].TSN = 100
	if got, ok := x.next(t, 1); !ok || !samePiece(got, list[0]) {
		t.Errorf("Next of a marked one = %v, %v, want %v", got, ok, list[0])
	}
}

// TestPushAtFull: 256 pieces that wait or are outstanding, whether acknowledged or marked, are all there may be; finally acknowledged ones don't count.
func TestPushAtFull(t *testing.T) {
	forFirsts(t, func(t *testing.T, x *both) {
		full := func(want api.Errno) {
			t.Helper()
			if _, e := x.push(t, sized(1)); e != want {
				t.Fatalf("Push = %d, want %d", e, want)
			}
		}
		for range 256 {
			full(api.OK)
		}
		full(api.ErrFull)
		if _, e := x.push(t, sized(0)); e != api.ErrForm {
			t.Errorf("Push of nothing to a full Queue = %d", e)
		}
		if _, e := x.push(t, sized(257)); e != api.ErrForm {
			t.Errorf("Push of too much to a full Queue = %d", e)
		}
		for i := range 200 {
			x.again(t, 0, i)
		}
		full(api.ErrFull)
		x.hears(t, -1, gaps(2, 200), []int{199, 0}, nil)
		full(api.ErrFull)
		x.late(t, 0)
		full(api.ErrFull)
		x.hears(t, 0, gaps(2, 10), []int{1, 0}, nil)
		full(api.OK)
		full(api.ErrFull)
		x.hears(t, 199, nil, []int{190, 0}, nil) // those of the Gap 2 to 10 were acknowledged before, and are still
		x.long(t, 57, 0)
		for range 199 {
			full(api.OK)
		}
		full(api.ErrFull)
		for i := range 256 {
			x.again(t, 1, 200+i)
		}
		full(api.ErrFull)
		x.hears(t, 454, nil, []int{0, 255}, nil)
		full(api.OK)
		x.again(t, 1, 456)
		x.hears(t, 456, nil, []int{0, 2}, nil)
		x.long(t, 0, 0)
	})
}

// TestNextOfNothing: neither an empty Queue nor one in which all is outstanding has one.
func TestNextOfNothing(t *testing.T) {
	forFirsts(t, func(t *testing.T, x *both) {
		none := func() {
			t.Helper()
			for _, path := range somePaths {
				if p, ok := x.next(t, path); ok || !reflect.DeepEqual(p, api.Piece{}) {
					t.Errorf("Next(%d) = %v, %v", path, p, ok)
				}
			}
		}
		none()
		x.sent(t, 0, 1, 0)
		none()
		x.hears(t, -1, gaps(2, 2), []int{0, 2}, nil)
		none()
		x.hears(t, 2, nil, []int{4, 0}, nil)
		none()
	})
}

// TestNextOfMarked: what is marked goes ahead of what waits, the first TSN first, however late it was marked; each once.
func TestNextOfMarked(t *testing.T) {
	forFirsts(t, func(t *testing.T, x *both) {
		x.sent(t, 0, 1, 0, 1, 0, 0)
		x.push(t, sized(7))
		x.push(t, sized(8))
		if n := x.late(t, 0); n != 4 {
			t.Errorf("Late = %d", n)
		}
		x.again(t, 2, 0)
		if n := x.late(t, 1); n != 2 {
			t.Errorf("Late = %d", n)
		}
		x.flown(t, 0, 0, 1)
		x.again(t, 2, 1, 2)
		if n := x.late(t, 2); n != 3 {
			t.Errorf("Late = %d", n)
		}
		x.again(t, 0, 0, 1, 2, 3, 4, 5)
		x.flown(t, 21, 0, 0)
		x.long(t, 2, 6)
		x.again(t, 1, 6)
		x.again(t, 0, 7)
		x.flown(t, 29, 7)
		x.long(t, 0, 8)
	})
}

// TestPathOfWhatIsSentAgain: its bytes are on the path on which it was sent last, in flight and when they are acknowledged.
func TestPathOfWhatIsSentAgain(t *testing.T) {
	forFirsts(t, func(t *testing.T, x *both) {
		x.sent(t, 0, 0, 0)
		x.late(t, 0)
		x.flown(t, 0, 0)
		x.again(t, 1, 0, 1)
		x.flown(t, 0, 3)
		x.hears(t, 1, nil, []int{0, 3}, nil)
		x.hears(t, 2, nil, []int{3, 0}, nil) // it is marked, but still on path 0
		x.long(t, 0, 0)
	})
}

// TestAnyPath: a path may be any number; those beyond the last one are not in acked, but everywhere else.
func TestAnyPath(t *testing.T) {
	forFirsts(t, func(t *testing.T, x *both) {
		x.sent(t, math.MinInt, -1, 2, math.MaxInt, 0, 1, -1, 2)
		for path, n := range map[int]int{math.MinInt: 1, -1: 9, 2: 11, math.MaxInt: 4, 0: 5, 1: 6, 3: 0, -2: 0} {
			if f := x.q.Flight(path); f != n {
				t.Errorf("Flight(%d) = %d, want %d", path, f, n)
			}
		}
		for range 2 {
			x.hears(t, -1, gaps(8, 8), []int{0, 0}, nil)
		}
		x.hears(t, -1, gaps(8, 8), []int{0, 0}, []int{math.MinInt, -1, 0, 1, 2, math.MaxInt})
		x.hears(t, 2, nil, []int{0, 0}, nil)
		x.again(t, -1, 3, 4)
		if n := x.late(t, -1); n != 2 {
			t.Errorf("Late(-1) = %d", n)
		}
		if n := x.late(t, 2); n != 1 {
			t.Errorf("Late(2) = %d", n)
		}
		x.again(t, math.MaxInt, 3, 4, 5, 6, 7)
		x.hears(t, 7, nil, []int{0, 0}, nil)
	})
}

// TestHeardOfWrongGaps: they are asked for ahead of the Cum, and change nothing.
func TestHeardOfWrongGaps(t *testing.T) {
	wrong := [][]api.Gap{
		gaps(0, 0),
		gaps(1, 1),
		gaps(0, 3),
		gaps(1, 3),
		gaps(3, 2),
		gaps(65535, 2),
		gaps(2, 2, 3, 3),
		gaps(2, 2, 2, 2),
		gaps(2, 4, 3, 5),
		gaps(2, 4, 5, 6),
		gaps(4, 5, 2, 2),
		gaps(2, 2, 4, 3),
		gaps(2, 2, 4, 4, 5, 5),
		gaps(2, 2, 4, 4, 3, 6),
		gaps(2, 65535, 0, 0),
		gaps(2, 65535, 1, 3),
		gaps(2, 65535, 65535, 65535),
		gaps(2, 65534, 65535, 65535),
		append(every(5), gaps(1, 1)...),
		every(65),
		every(1000),
		append(every(64), gaps(200, 100)...),
	}
	forFirsts(t, func(t *testing.T, x *both) {
		x.sent(t, 0, 1, 0, 1)
		x.hears(t, -1, gaps(3, 3), []int{3, 0}, nil)
		for _, g := range wrong {
			for _, cum := range []uint32{x.q.Cum(), x.q.Cum() + 2, x.q.Cum() - 1, x.q.Cum() + 5, x.q.Cum() + 1<<31} {
				if a, f, e := x.heard(t, api.Heard{Cum: cum, Gaps: g}); a != nil || f != nil || e != api.ErrForm {
					t.Errorf("Heard with Cum %d and Gaps %v = %v, %v, %d", cum, g, a, f, e)
				}
			}
		}
		x.flown(t, 1, 6)
		x.hears(t, -1, gaps(3, 3), []int{0, 0}, nil)
		x.hears(t, -1, gaps(3, 3), []int{0, 0}, []int{0, 1}) // the wrong ones were no misses
	})
}

// TestHeardOfGaps: what Gaps may be, and which TSNs they have: only those that are outstanding count.
func TestHeardOfGaps(t *testing.T) {
	cases := []struct {
		gaps  []api.Gap
		acked int // of the pieces 1, 2 .. 9 bytes, of which the first isn't acknowledged
	}{
		{nil, 0},
		{[]api.Gap{}, 0},
		{gaps(2, 2), 2},
		{gaps(2, 9), 44},
		{gaps(9, 9), 9},
		{gaps(9, 10), 9},
		{gaps(10, 10), 0},
		{gaps(8, 65535), 17},
		{gaps(65535, 65535), 0},
		{gaps(2, 65535), 44},
		{gaps(2, 3, 5, 5, 7, 8), 25},
		{gaps(3, 3, 5, 5, 9, 300, 512, 60000), 17},
		{gaps(10, 20, 22, 65535), 0},
		{gaps(2, 2, 4, 4, 6, 6, 8, 8), 20},
		{every(63), 20},
		{every(64), 20},
	}
	for _, c := range cases {
		forFirsts(t, func(t *testing.T, x *both) {
			x.sent(t, 0, 0, 0, 0, 0, 0, 0, 0, 0)
			x.push(t, sized(10)) // it waits: no Gap has it
			x.hears(t, -1, c.gaps, []int{c.acked, 0}, nil)
			x.flown(t, 45-c.acked, 0)
			x.long(t, 1, 9)
			x.again(t, 1, 9)
			x.flown(t, 45-c.acked, 10)
		})
	}
}

// TestHeardOfMuchElse: the window and the duplicates may be any.
func TestHeardOfMuchElse(t *testing.T) {
	x := from(7)
	x.sent(t, 0, 1)
	h := api.Heard{Cum: 7, Window: math.MaxUint32, Gaps: gaps(2, 2), Dups: make([]uint32, 1000)}
	if a, f, e := x.heard(t, h); !slices.Equal(a, []int{1, 0}) || len(f) != 0 || e != api.OK {
		t.Errorf("Heard = %v, %v, %d", a, f, e)
	}
	x.flown(t, 0, 2)
}

// TestHeardOfCums: each from q's Cum to the last outstanding TSN, and none else.
func TestHeardOfCums(t *testing.T) {
	forFirsts(t, func(t *testing.T, x *both) {
		before := x.p.first - 1
		for out := range uint32(4) {
			for d := range out + 1 {
				y := from(x.p.first)
				y.sent(t, make([]int, out)...)
				y.push(t, sized(9))
				for _, wrong := range []uint32{before - 1, before - 2, before - 1<<16, before + out + 1, before + out + 2, before + 256, before + 1<<16, before + 1<<31 - 1, before + 1<<31, before + 1<<31 + 1} {
					if a, f, e := y.heard(t, api.Heard{Cum: wrong, Gaps: gaps(2, 9)}); a != nil || f != nil || e != api.ErrOld {
						t.Fatalf("Heard with Cum %d = %v, %v, %d, and %d to %d may be", wrong, a, f, e, before, before+out)
					}
				}
				y.hears(t, int(d)-1, nil, []int{int(d * (d + 1) / 2), 0}, nil)
				if c := y.q.Cum(); c != before+d {
					t.Errorf("Cum() = %d, want %d", c, before+d)
				}
				y.long(t, 1, int(out-d))
				if _, _, e := y.heard(t, api.Heard{Cum: before + d - 1}); e != api.ErrOld {
					t.Errorf("Heard with what Cum was = %d", e)
				}
				y.hears(t, int(d)-1, nil, []int{0, 0}, nil)
				y.again(t, 1, int(out))
			}
		}
	})
}

// TestHeardUpToAll: 256 pieces, finally acknowledged at once or one by one.
func TestHeardUpToAll(t *testing.T) {
	forFirsts(t, func(t *testing.T, x *both) {
		for round := range 2 {
			for i := range 256 {
				x.push(t, sized(i+1))
				x.again(t, i%2, round*256+i)
			}
			x.flown(t, 128*128, 128*129)
			if round == 0 {
				x.hears(t, 255, nil, []int{128 * 128, 128 * 129}, nil)
			}
			for i := 0; round == 1 && i < 256; i++ {
				want := []int{0, 0}
				want[i%2] = i + 1
				x.hears(t, 256+i, nil, want, nil)
			}
			x.long(t, 0, 0)
			x.flown(t, 0, 0)
		}
		if len(x.q.items) != 0 {
			t.Errorf("%d pieces are kept", len(x.q.items))
		}
	})
}

// TestAckedOnce: the bytes of a piece count when it is acknowledged, not again when it still is, nor when it is so finally.
func TestAckedOnce(t *testing.T) {
	forFirsts(t, func(t *testing.T, x *both) {
		x.sent(t, 0, 1, 0, 1, 1)
		x.hears(t, -1, gaps(2, 2, 4, 4), []int{0, 6}, nil)
		x.hears(t, -1, gaps(2, 2, 4, 4), []int{0, 0}, nil)
		x.hears(t, 0, gaps(3, 3), []int{1, 0}, []int{0}) // what was in the Gap 4 to 4 is 3 above Cum now; what was in 2 to 2 is in none
		x.hears(t, 0, gaps(3, 4), []int{0, 5}, nil)
		x.hears(t, 4, nil, []int{3, 2}, nil)
		x.long(t, 0, 0)
	})
}

// TestNotAcknowledgedAnyMore: what is missing in the Gaps is in flight again, and counts once more when it is back.
func TestNotAcknowledgedAnyMore(t *testing.T) {
	forFirsts(t, func(t *testing.T, x *both) {
		x.sent(t, 0, 0, 1, 1, 0)
		for range 3 {
			x.hears(t, -1, gaps(2, 4), []int{2, 7}, nil)
			x.flown(t, 6, 0)
			x.hears(t, -1, nil, []int{0, 0}, nil)
			x.flown(t, 8, 7)
			x.hears(t, -1, []api.Gap{}, []int{0, 0}, nil)
			x.long(t, 0, 5)
			if c := x.q.Cum(); c != x.p.first-1 {
				t.Errorf("Cum() = %d", c)
			}
			x.late(t, 0)
			x.again(t, 0, 0, 1, 4) // so that the first one's misses are 0
		}
		x.hears(t, -1, gaps(4, 4), []int{0, 4}, nil)
		if n := x.late(t, 1); n != 1 {
			t.Errorf("Late = %d: one of the path's two is acknowledged", n)
		}
		x.hears(t, -1, nil, []int{0, 0}, nil)
		x.flown(t, 8, 4)
	})
}

// TestAcknowledgedIsNotMarked: a marked piece that is acknowledged is not sent again, even when it is not acknowledged any more.
func TestAcknowledgedIsNotMarked(t *testing.T) {
	forFirsts(t, func(t *testing.T, x *both) {
		x.sent(t, 0, 0, 0)
		x.push(t, sized(4))
		x.late(t, 0)
		x.hears(t, -1, gaps(2, 2), []int{2, 0}, nil)
		x.again(t, 1, 0)
		x.hears(t, -1, nil, []int{0, 0}, nil)
		x.flown(t, 2, 1)
		x.again(t, 1, 2, 3)
		if n := x.late(t, 0); n != 1 {
			t.Errorf("Late = %d", n)
		}
		x.hears(t, 1, nil, []int{2, 1}, nil)
		if p, ok := x.next(t, 0); ok {
			t.Errorf("Next = %v: what is finally acknowledged was marked", p)
		}
	})
}

// TestMisses: the third one marks a piece. None is had by the last acknowledged one, by what is after it, by acknowledged ones and by marked ones.
func TestMisses(t *testing.T) {
	forFirsts(t, func(t *testing.T, x *both) {
		x.sent(t, 0, 1, 0, 1, 0, 1)
		x.hears(t, -1, gaps(3, 3), []int{3, 0}, nil)
		x.hears(t, -1, gaps(3, 3), []int{0, 0}, nil)
		x.flown(t, 6, 12)
		x.hears(t, -1, gaps(3, 3), []int{0, 0}, []int{0, 1})
		x.flown(t, 5, 10)
		for range 5 {
			x.hears(t, -1, gaps(3, 3), []int{0, 0}, nil)
		}
		x.again(t, 1, 0)
		x.hears(t, -1, gaps(3, 3), []int{0, 0}, nil)
		x.hears(t, -1, gaps(5, 5), []int{5, 0}, nil) // a miss for the fourth one too, and for the third one, which was acknowledged
		x.hears(t, -1, gaps(5, 5), []int{0, 0}, []int{1})
		x.hears(t, -1, gaps(5, 5), []int{0, 0}, []int{0, 1})
		x.again(t, 0, 0, 1, 2, 3)
		x.flown(t, 10, 6)
		if p, ok := x.next(t, 0); ok {
			t.Errorf("Next = %v", p)
		}
	})
}

// TestNoMissWithoutGaps: what is finally acknowledged is no miss for what comes after it.
func TestNoMissWithoutGaps(t *testing.T) {
	forFirsts(t, func(t *testing.T, x *both) {
		x.sent(t, 0, 0, 0, 0, 0, 0)
		for i := range 5 {
			x.hears(t, i, nil, []int{i + 1, 0}, nil)
			x.hears(t, i, gaps(30, 40), []int{0, 0}, nil)
			x.hears(t, i, nil, []int{0, 0}, nil)
			x.hears(t, i, nil, []int{0, 0}, nil)
		}
		x.flown(t, 6)
	})
}

// TestMissesWhileCumGoesOn: they stay when pieces before are finally acknowledged, which may be misses too.
func TestMissesWhileCumGoesOn(t *testing.T) {
	forFirsts(t, func(t *testing.T, x *both) {
		x.sent(t, 0, 0, 0, 1, 0)
		x.hears(t, -1, gaps(5, 5), []int{5, 0}, nil)
		x.hears(t, 0, gaps(4, 4), []int{1, 0}, nil)
		x.hears(t, 2, gaps(2, 2), []int{5, 0}, []int{1})
		x.again(t, 0, 3)
	})
}

// TestMissesStay: neither that a piece is acknowledged, nor that it is marked by Late, takes misses from it; that it is sent does.
func TestMissesStay(t *testing.T) {
	forFirsts(t, func(t *testing.T, x *both) {
		x.sent(t, 0, 0, 1)
		x.hears(t, -1, gaps(3, 3), []int{0, 3}, nil)
		x.hears(t, -1, gaps(3, 3), []int{0, 0}, nil)
		x.late(t, 0)
		x.hears(t, -1, gaps(2, 3), []int{2, 0}, nil)
		x.again(t, 1, 0) // the second one is not marked any more, but has its two misses
		x.hears(t, -1, gaps(3, 3), []int{0, 0}, []int{0})
		x.again(t, 1, 1)
		x.hears(t, -1, gaps(3, 3), []int{0, 0}, nil)
		x.hears(t, -1, gaps(3, 3), []int{0, 0}, []int{1}) // the first one
		x.hears(t, -1, gaps(3, 3), []int{0, 0}, []int{1}) // the second one, which was sent after it
	})
}

// TestMissesOfWhatIsSentAgain: none, so that it takes three others to mark it again.
func TestMissesOfWhatIsSentAgain(t *testing.T) {
	forFirsts(t, func(t *testing.T, x *both) {
		x.sent(t, 0, 1)
		for range 4 {
			x.hears(t, -1, gaps(2, 2), []int{0, x.q.Flight(1)}, nil)
			x.hears(t, -1, gaps(2, 2), []int{0, 0}, nil)
			x.late(t, 0)
			x.again(t, 0, 0)
			x.hears(t, -1, gaps(2, 2), []int{0, 0}, nil)
			x.hears(t, -1, gaps(2, 2), []int{0, 0}, nil)
			x.hears(t, -1, gaps(2, 2), []int{0, 0}, []int{0})
			x.again(t, 0, 0)
		}
	})
}

// TestFast: the paths ascend, and each is there once.
func TestFast(t *testing.T) {
	forFirsts(t, func(t *testing.T, x *both) {
		x.sent(t, 1, 0, 1, 5, -3, 0, 1, 5, -3, -7, 2)
		for range 2 {
			x.hears(t, -1, gaps(10, 11), []int{0, 0}, nil)
		}
		x.hears(t, -1, gaps(10, 11), []int{0, 0}, []int{-3, 0, 1, 5})
		for i := range 9 {
			x.again(t, i%2, i)
		}
		x.flown(t, 1+3+5+7+9, 2+4+6+8)
	})
}

// TestLate: what is in flight on the path, and nothing else.
func TestLate(t *testing.T) {
	forFirsts(t, func(t *testing.T, x *both) {
		x.push(t, sized(50))
		for _, path := range somePaths {
			if n := x.late(t, path); n != 0 {
				t.Errorf("Late(%d) = %d of what waits", path, n)
			}
		}
		x.again(t, 0, 0)
		x.sent(t, 0, 1, 0, 0, 1)
		x.hears(t, -1, gaps(4, 4), []int{3, 0}, nil)
		for _, c := range []struct{ path, want int }{{2, 0}, {-1, 0}, {0, 3}, {0, 0}, {1, 2}, {1, 0}, {0, 0}} {
			if n := x.late(t, c.path); n != c.want {
				t.Errorf("Late(%d) = %d, want %d", c.path, n, c.want)
			}
			x.long(t, 0, 6)
		}
		x.flown(t, 0, 0)
		x.again(t, 0, 0, 1, 2, 4, 5)
		if n := x.late(t, 0); n != 5 {
			t.Errorf("Late = %d", n)
		}
	})
}

// TestLateOfAll: 256 of them.
func TestLateOfAll(t *testing.T) {
	x := from(math.MaxUint32 - 100)
	for i := range 256 {
		x.push(t, sized(256))
		x.again(t, 0, i)
	}
	x.flown(t, 65536)
	if n := x.late(t, 0); n != 256 {
		t.Errorf("Late = %d", n)
	}
	for i := range 256 {
		x.again(t, 1, i)
	}
	x.flown(t, 0, 65536)
}

func TestNil(t *testing.T) {
	var q *Queue
	for _, p := range []api.Piece{{}, sized(1), sized(257)} {
		if tsn, e := q.Push(p); tsn != 0 || e != api.ErrArg {
			t.Errorf("Push = %d, %d", tsn, e)
		}
	}
	for _, h := range []api.Heard{{}, {Cum: 5}, {Gaps: gaps(0, 0)}, {Gaps: gaps(2, 2)}} {
		if a, f, e := q.Heard(h); a != nil || f != nil || e != api.ErrArg {
			t.Errorf("Heard = %v, %v, %d", a, f, e)
		}
	}
	for _, path := range somePaths {
		if p, ok := q.Next(path); ok || !reflect.DeepEqual(p, api.Piece{}) {
			t.Errorf("Next = %v, %v", p, ok)
		}
		if l, f := q.Late(path), q.Flight(path); l != 0 || f != 0 {
			t.Errorf("Late = %d, Flight = %d", l, f)
		}
	}
	if w, o := q.Len(); w != 0 || o != 0 || q.Cum() != 0 {
		t.Errorf("Len = %d, %d, Cum = %d", w, o, q.Cum())
	}
}

// TestNew: an empty Queue, wherever it begins.
func TestNew(t *testing.T) {
	forFirsts(t, func(t *testing.T, x *both) {
		if c := x.q.Cum(); c+1 != x.p.first {
			t.Errorf("Cum() = %d", c)
		}
		x.long(t, 0, 0)
		x.stands(t)
		for _, path := range somePaths {
			if n := x.late(t, path); n != 0 {
				t.Errorf("Late(%d) = %d", path, n)
			}
		}
		x.hears(t, -1, gaps(2, 60000), []int{0, 0}, nil)
		for _, d := range []uint32{0, 1, 5, 1<<31 - 1, 1 << 31, math.MaxUint32 - 1} {
			if _, _, e := x.heard(t, api.Heard{Cum: x.p.first + d}); e != api.ErrOld {
				t.Errorf("Heard = %d", e)
			}
		}
	})
}

// TestZeroValue: a Queue that New didn't make is one of New(1).
func TestZeroValue(t *testing.T) {
	x := &both{new(Queue), plainQueue{first: 1}}
	x.stands(t)
	x.next(t, 0)
	x.hears(t, -1, gaps(2, 3), []int{0, 0}, nil)
	x.sent(t, 0, 1)
	x.hears(t, 0, nil, []int{1, 0}, nil)
}

// TestQueuesAreApart: what one does shows in no other one.
func TestQueuesAreApart(t *testing.T) {
	x, y := from(5), from(5)
	x.sent(t, 0, 1, 0)
	y.stands(t)
	y.sent(t, 1, 1)
	x.hears(t, 1, nil, []int{1, 2}, nil)
	y.stands(t)
	y.late(t, 1)
	x.stands(t)
}

// spare returns bytes with room behind them, which has a mark.
func spare(s string) []byte {
	return append([]byte(s), "#######"...)[:len(s)]
}

// TestArgumentsAreLeftAlone: neither the bytes of a piece nor the lists of a Heard are changed, nor kept.
func TestArgumentsAreLeftAlone(t *testing.T) {
	x := from(9)
	b := spare("bytes")
	x.q.Push(api.Piece{Bytes: b})
	x.p.push(api.Piece{Bytes: []byte("bytes")})
	if string(b[:cap(b)][:12]) != "bytes#######" {
		t.Errorf("Push changed its argument to %q", b[:cap(b)])
	}
	copy(b, "wrong")
	if p, _ := x.next(t, 0); string(p.Bytes) != "bytes" {
		t.Errorf("Push kept its argument: %q", p.Bytes)
	}
	x.sent(t, 0, 1, 0)
	g := append(gaps(2, 2, 4, 4), gaps(7, 7)...)[:2]
	dups := append([]uint32{1, 2}, 3)[:2]
	x.heard(t, api.Heard{Cum: 9, Gaps: g, Dups: dups})
	if !slices.Equal(g[:3], gaps(2, 2, 4, 4, 7, 7)) || !slices.Equal(dups[:3], []uint32{1, 2, 3}) {
		t.Errorf("Heard changed its argument to %v, %v", g[:3], dups[:3])
	}
	g[0] = api.Gap{From: 3, To: 3}
	x.stands(t)
}

// spoil overwrites a list, and what is behind its end.
func spoil[T any](list []T, with T) {
	list = list[:cap(list)]
	for i := range list {
		list[i] = with
	}
}

// TestResultsShareNoMemory: what is done to a result shows neither in the Queue nor in another result.
func TestResultsShareNoMemory(t *testing.T) {
	x := from(3)
	for range 5 {
		x.push(t, sized(40))
	}
	p, _ := x.q.Next(0)
	x.p.next(0)
	spoil(p.Bytes, 99)
	x.late(t, 0)
	a, _ := x.q.Next(0)
	x.p.next(0)
	b := slices.Clone(a.Bytes)
	x.late(t, 0)
	x.next(t, 0) // is as it was pushed
	x.next(t, 1)
	x.next(t, 1)
	spoil(p.Bytes, 98)
	if !bytes.Equal(a.Bytes, b) || !bytes.Equal(b, text(40)) {
		t.Errorf("Next = %v", a.Bytes)
	}
	h := api.Heard{Cum: 2, Gaps: gaps(3, 3)}
	for range 2 {
		x.heard(t, h)
	}
	acked, fast, _ := x.q.Heard(h)
	x.p.heard(h)
	first, second := slices.Clone(acked), slices.Clone(fast)
	again, _, _ := x.q.Heard(h)
	spoil(again, 77)
	if !slices.Equal(acked, first) || !slices.Equal(fast, second) || !slices.Equal(fast, []int{0, 1}) {
		t.Errorf("Heard = %v, %v", acked, fast)
	}
	spoil(acked, 66)
	spoil(fast, 55)
	x.stands(t)
	x.heard(t, h)
}

// TestNothingIsKept: what is finally acknowledged leaves no bytes behind, however much room there is.
func TestNothingIsKept(t *testing.T) {
	x := from(math.MaxUint32 - 2)
	x.sent(t, 0, 0, 0, 0, 0, 0)
	room := x.q.items[:cap(x.q.items)]
	x.hears(t, 3, nil, []int{10, 0}, nil)
	for _, it := range room[2:] {
		if it.Bytes != nil {
			t.Errorf("%v is kept", it)
		}
	}
}

// TestErrorsChangeNothing: what is refused leaves all as it was.
func TestErrorsChangeNothing(t *testing.T) {
	forFirsts(t, func(t *testing.T, x *both) {
		x.sent(t, 0, 1, 0, 1)
		x.hears(t, -1, gaps(3, 3), []int{3, 0}, nil)
		x.late(t, 1)
		was := Queue{x.q.cum, slices.Clone(x.q.items), x.q.out}
		x.push(t, sized(0))
		x.push(t, sized(300))
		x.heard(t, api.Heard{Cum: x.p.first, Gaps: gaps(3, 2)})
		x.heard(t, api.Heard{Cum: x.p.first + 4})
		x.heard(t, api.Heard{Cum: x.p.first - 2, Gaps: gaps(2, 4)})
		if !reflect.DeepEqual(*x.q, was) {
			t.Errorf("%v became %v", was, *x.q)
		}
	})
}

// TestLookingChangesNothing: Len, Cum and Flight show the same, however often they are asked.
func TestLookingChangesNothing(t *testing.T) {
	x := from(4294967295)
	x.sent(t, 0, 1, 7)
	x.hears(t, 0, gaps(2, 2), []int{1, 0}, nil)
	was := Queue{x.q.cum, slices.Clone(x.q.items), x.q.out}
	for range 3 {
		x.stands(t)
	}
	if !reflect.DeepEqual(*x.q, was) {
		t.Errorf("%v became %v", was, *x.q)
	}
}

// TestRangesMayBeLeft: a loop over what is in flight may end early.
func TestRangesMayBeLeft(t *testing.T) {
	x := from(1)
	x.sent(t, 1, 0, 0, 1)
	var seen []uint32
	for it := range x.q.on(0) {
		seen = append(seen, it.TSN)
		break
	}
	for it := range inFlight(x.q.items[2:]) {
		seen = append(seen, it.TSN)
		break
	}
	if !slices.Equal(seen, []uint32{2, 3}) {
		t.Errorf("seen: %v", seen)
	}
}

// TestTwiceTheSame: the same calls have the same results.
func TestTwiceTheSame(t *testing.T) {
	for seed := range int64(3) {
		a, b := from(4294967290), from(4294967290)
		r, s := rand.New(rand.NewSource(seed)), rand.New(rand.NewSource(seed))
		for range 300 {
			anyStep(t, a, r.Intn)
			anyStep(t, b, s.Intn)
			if !reflect.DeepEqual(a.q, b.q) {
				t.Fatalf("%v and %v", a.q, b.q)
			}
		}
	}
}

// anyGaps returns Gaps that may be, most of them within the next few TSNs.
func anyGaps(draw func(n int) int) []api.Gap {
	var list []api.Gap
	free := 2
	for range draw(4) {
		g := api.Gap{From: uint16(free + draw(3))}
		g.To = g.From + uint16(draw(4))
		free = int(g.To) + 2
		list = append(list, g)
	}
	return list
}

// anyHeard returns one of which Cum and Gaps may be, or not.
func anyHeard(x *both, draw func(n int) int) api.Heard {
	_, out := x.q.Len()
	h := api.Heard{Cum: x.q.Cum(), Gaps: anyGaps(draw)}
	switch draw(8) {
	case 0:
		h.Cum += uint32(draw(out + 1))
	case 1, 2:
		h.Cum += uint32(draw(min(out, 4) + 1))
	case 3:
		h.Cum += uint32(out + draw(2))
	case 4:
		h.Cum -= uint32(draw(2))
	}
	if len(h.Gaps) > 0 && draw(12) == 0 {
		h.Gaps[draw(len(h.Gaps))].To -= uint16(draw(5))
	}
	return h
}

// anyStep does one of the calls, as it is drawn.
func anyStep(t *testing.T, x *both, draw func(n int) int) {
	t.Helper()
	path := somePaths[draw(len(somePaths))]
	if draw(8) != 0 {
		path = draw(2)
	}
	switch draw(16) {
	case 0, 1, 2, 3:
		x.push(t, sized(1+draw(6)))
	case 4:
		x.push(t, sized(draw(300)))
	case 5, 6, 7, 8, 9:
		x.next(t, path)
	case 10:
		x.late(t, path)
	default:
		x.heard(t, anyHeard(x, draw))
	}
}

// TestAnySteps: calls in any order, held against the plain Queue.
func TestAnySteps(t *testing.T) {
	for i, first := range firsts {
		r := rand.New(rand.NewSource(int64(i)))
		x := from(first)
		for range 1000 {
			anyStep(t, x, r.Intn)
		}
	}
}

// FuzzAnyArguments holds the calls against the plain Queue: each byte is a draw.
func FuzzAnyArguments(f *testing.F) {
	f.Add([]byte(nil), uint32(0), uint16(0), uint16(0))
	for i, first := range firsts {
		steps := make([]byte, 200)
		rand.New(rand.NewSource(int64(i))).Read(steps)
		f.Add(steps, first, uint16(2), uint16(i))
	}
	f.Fuzz(func(t *testing.T, steps []byte, first uint32, low, high uint16) {
		x := from(first)
		steps = steps[:min(len(steps), 2000)]
		draw := func(n int) int {
			if len(steps) == 0 {
				return 0
			}
			d := int(steps[0]) % n
			steps = steps[1:]
			return d
		}
		for len(steps) > 0 {
			anyStep(t, x, draw)
		}
		x.heard(t, api.Heard{Cum: uint32(low)<<16 | uint32(high), Gaps: gaps(low, high)})
		x.heard(t, api.Heard{Cum: x.q.Cum() + uint32(high), Gaps: gaps(2, 3, low, high)})
	})
}
