package tsn

import (
	"math"
	"math/rand"
	"slices"
	"testing"

	"trunkline/api"
	"trunkline/chunk"
)

// firsts: where a Track begins, so that its numbers go round early, late or not at all, or pass the middle.
var firsts = []uint32{0, 1, 2, 5, 512, 513, 1 << 16, math.MaxInt32 - 1, math.MaxInt32, math.MaxInt32 + 1, math.MaxInt32 + 2, math.MaxUint32 - 512, math.MaxUint32 - 5, math.MaxUint32 - 1, math.MaxUint32}

// plainTrack does what the chapter asks in the plainest way: it has a mark for each number since the first one, and looks through them all.
type plainTrack struct {
	first uint32
	marks []bool // of first, first + 1, ..
	dups  []uint32
}

// count returns how many have arrived with none missing between them.
func (p *plainTrack) count() int {
	for i, m := range p.marks {
		if !m {
			return i
		}
	}
	return len(p.marks)
}

func (p *plainTrack) cum() uint32 {
	return p.first - 1 + uint32(p.count())
}

func (p *plainTrack) got(tsn uint32) api.Errno {
	distance := (int(tsn) - int(p.cum()) + 1<<32) % (1 << 32)
	at := p.count() + distance - 1
	if distance == 0 || distance >= 2147483648 || at < len(p.marks) && p.marks[at] {
		if len(p.dups) != 64 {
			p.dups = append(p.dups, tsn)
		}
		return api.ErrThere
	}
	if distance > 512 {
		return api.ErrFull
	}
	for len(p.marks) <= at {
		p.marks = append(p.marks, false)
	}
	p.marks[at] = true
	return api.OK
}

func (p *plainTrack) ahead() []uint32 {
	var list []uint32
	for i := p.count(); i < len(p.marks); i++ {
		if p.marks[i] {
			list = append(list, p.first+uint32(i))
		}
	}
	return list
}

func (p *plainTrack) tell(window uint32) api.Heard {
	h := api.Heard{Cum: p.cum(), Window: window, Dups: p.dups}
	p.dups = nil
	n := p.count()
	for i := n; i < len(p.marks); i++ {
		if !p.marks[i] || p.marks[i-1] {
			continue
		}
		end := i
		for end+1 < len(p.marks) && p.marks[end+1] {
			end++
		}
		h.Gaps = append(h.Gaps, api.Gap{From: uint16(i - n + 1), To: uint16(end - n + 1)})
	}
	h.Gaps = h.Gaps[:min(64, len(h.Gaps))]
	return h
}

// gap is a run from one distance to another.
func gap(from, to uint16) api.Gap {
	return api.Gap{From: from, To: to}
}

// same reports whether two Heards say the same: nil and empty lists are one.
func same(a, b api.Heard) bool {
	return a.Cum == b.Cum && a.Window == b.Window && slices.Equal(a.Gaps, b.Gaps) && slices.Equal(a.Dups, b.Dups)
}

// gets checks what Got answers of each of these.
func gets(t *testing.T, x *Track, want api.Errno, tsns ...uint32) {
	t.Helper()
	for _, n := range tsns {
		if e := x.Got(n); e != want {
			t.Errorf("Got(%d) with Cum %d = %d, want %d", n, x.Cum(), e, want)
		}
	}
}

// stands checks Cum and Ahead.
func stands(t *testing.T, x *Track, cum uint32, ahead ...uint32) {
	t.Helper()
	if c, a := x.Cum(), x.Ahead(); c != cum || !slices.Equal(a, ahead) {
		t.Errorf("Cum() = %d, Ahead() = %v, want %d and %v", c, a, cum, ahead)
	}
}

// tells checks what Tell answers.
func tells(t *testing.T, x *Track, want api.Heard) {
	t.Helper()
	if h := x.Tell(want.Window); !same(h, want) {
		t.Errorf("Tell(%d) = %v, want %v", want.Window, h, want)
	}
}

// run returns count numbers from from on, each step above the one before it.
func run(from uint32, count, step int) []uint32 {
	var list []uint32
	for i := range count {
		list = append(list, from+uint32(i*step))
	}
	return list
}

func TestExample(t *testing.T) {
	x := New(4294967295)
	gets(t, x, api.OK, 4294967295)
	gets(t, x, api.ErrThere, 4294967295)
	gets(t, x, api.OK, 1, 3, 4)
	stands(t, x, 4294967295, 1, 3, 4)
	tells(t, x, api.Heard{Cum: 4294967295, Window: 9, Gaps: []api.Gap{gap(2, 2), gap(4, 5)}, Dups: []uint32{4294967295}})
	gets(t, x, api.OK, 0)
	stands(t, x, 1, 3, 4)
	gets(t, x, api.ErrFull, 514)
	stands(t, x, 1, 3, 4)
	gets(t, x, api.OK, 513)
	stands(t, x, 1, 3, 4, 513)
}

func TestNew(t *testing.T) {
	for _, first := range firsts {
		x := New(first)
		if x == nil {
			t.Fatalf("New(%d) = nil", first)
		}
		stands(t, x, first-1)
		tells(t, x, api.Heard{Cum: first - 1})
		gets(t, x, api.OK, first)
		stands(t, x, first)
	}
	stands(t, New(0), 4294967295)
}

// TestGotInOrder: a long way in order, with nothing kept of it.
func TestGotInOrder(t *testing.T) {
	for _, first := range firsts {
		x := New(first)
		for i := range uint32(2000) {
			if e := x.Got(first + i); e != api.OK || x.Cum() != first+i {
				t.Fatalf("Got(%d) = %d, Cum() = %d", first+i, e, x.Cum())
			}
		}
		stands(t, x, first+1999)
		if len(x.ahead) != 0 || len(x.dups) != 0 {
			t.Errorf("%d numbers ahead and %d duplicates are kept", len(x.ahead), len(x.dups))
		}
	}
}

// TestGotInAnyOrder: all orders of six numbers end the same, and each step is that of the plain Track.
func TestGotInAnyOrder(t *testing.T) {
	for _, first := range firsts {
		for order := range 720 {
			x, p := New(first), plainTrack{first: first}
			left := run(first, 6, 1)
			for n := 6; n > 0; n-- {
				k := order % n
				order /= n
				gets(t, x, api.OK, left[k])
				p.got(left[k])
				stands(t, x, p.cum(), p.ahead()...)
				left = slices.Delete(left, k, k+1)
			}
			stands(t, x, first+5)
			tells(t, x, api.Heard{Cum: first + 5, Window: 1})
		}
	}
}

// TestGotOfDistances: what Got answers of a number that has not arrived, at each edge of its distance from Cum.
func TestGotOfDistances(t *testing.T) {
	cases := []struct {
		distance uint32
		want     api.Errno
	}{
		{0, api.ErrThere},
		{1, api.OK},
		{2, api.OK},
		{511, api.OK},
		{512, api.OK},
		{513, api.ErrFull},
		{514, api.ErrFull},
		{1 << 16, api.ErrFull},
		{1<<16 + 1, api.ErrFull},
		{1<<16 + 512, api.ErrFull},
		{1 << 30, api.ErrFull},
		{1<<31 - 1, api.ErrFull},
		{1 << 31, api.ErrThere},
		{1<<31 + 1, api.ErrThere},
		{1<<31 + 512, api.ErrThere},
		{1<<32 - 513, api.ErrThere},
		{1<<32 - 512, api.ErrThere},
		{1<<32 - 2, api.ErrThere},
		{1<<32 - 1, api.ErrThere},
	}
	for _, first := range firsts {
		for _, c := range cases {
			cum := first + 1
			x := New(first)
			gets(t, x, api.OK, first, cum)
			tsn := cum + c.distance
			gets(t, x, c.want, tsn)
			want := api.Heard{Cum: cum, Window: 3}
			switch {
			case c.want == api.ErrThere:
				want.Dups = []uint32{tsn}
				stands(t, x, cum)
			case c.want == api.ErrFull:
				stands(t, x, cum)
			case c.distance == 1:
				want.Cum = tsn
				stands(t, x, tsn)
			default:
				want.Gaps = []api.Gap{gap(uint16(c.distance), uint16(c.distance))}
				stands(t, x, cum, tsn)
			}
			tells(t, x, want)
		}
	}
}

// TestGotAgain: what arrived before is a duplicate, whether it is Cum, behind it or ahead of it; what is too far away is none.
func TestGotAgain(t *testing.T) {
	for _, first := range firsts {
		x := New(first)
		gets(t, x, api.OK, first, first+1, first+3, first+513)
		gets(t, x, api.ErrThere, first+3, first, first+1, first+3, first+513, first-1, first-512)
		gets(t, x, api.ErrFull, first+514, first+514, first+600)
		stands(t, x, first+1, first+3, first+513)
		tells(t, x, api.Heard{Cum: first + 1, Window: 2, Gaps: []api.Gap{gap(2, 2), gap(512, 512)},
			Dups: []uint32{first + 3, first, first + 1, first + 3, first + 513, first - 1, first - 512}})
		gets(t, x, api.OK, first+2)
		stands(t, x, first+3, first+513)
		gets(t, x, api.ErrThere, first+2, first+3)
		gets(t, x, api.OK, first+514, first+515)
		gets(t, x, api.ErrFull, first+516)
		tells(t, x, api.Heard{Cum: first + 3, Window: 2, Gaps: []api.Gap{gap(510, 512)}, Dups: []uint32{first + 2, first + 3}})
	}
}

// TestGotOfAllAhead: 511 numbers, and then the one that was missing; backwards too.
func TestGotOfAllAhead(t *testing.T) {
	for _, first := range firsts {
		up := run(first+1, 511, 1)
		down := slices.Clone(up)
		slices.Reverse(down)
		for _, list := range [][]uint32{up, down} {
			x := New(first)
			gets(t, x, api.OK, list...)
			stands(t, x, first-1, up...)
			gets(t, x, api.ErrFull, first+512)
			tells(t, x, api.Heard{Cum: first - 1, Gaps: []api.Gap{gap(2, 512)}})
			gets(t, x, api.OK, first)
			stands(t, x, first+511)
			if len(x.ahead) != 0 {
				t.Errorf("%d numbers ahead are kept", len(x.ahead))
			}
			gets(t, x, api.ErrThere, first, first+255, first+511)
			gets(t, x, api.OK, first+1023)
			gets(t, x, api.ErrFull, first+1024)
			tells(t, x, api.Heard{Cum: first + 511, Gaps: []api.Gap{gap(512, 512)}, Dups: []uint32{first, first + 255, first + 511}})
		}
	}
}

// TestCumStopsAtNextGap: Cum passes one run, and stops ahead of the next one.
func TestCumStopsAtNextGap(t *testing.T) {
	for _, first := range firsts {
		x := New(first)
		gets(t, x, api.OK, first+1, first+2, first+5, first+4, first+8)
		stands(t, x, first-1, first+1, first+2, first+4, first+5, first+8)
		gets(t, x, api.OK, first)
		stands(t, x, first+2, first+4, first+5, first+8)
		gets(t, x, api.OK, first+3)
		stands(t, x, first+5, first+8)
		gets(t, x, api.OK, first+7)
		stands(t, x, first+5, first+7, first+8)
		gets(t, x, api.OK, first+6)
		stands(t, x, first+8)
	}
}

// TestTellOfRuns: runs that touch are one, and what is missing between two runs is at least one number.
func TestTellOfRuns(t *testing.T) {
	cases := []struct {
		above []uint32
		want  []api.Gap
	}{
		{[]uint32{2}, []api.Gap{gap(2, 2)}},
		{[]uint32{2, 3}, []api.Gap{gap(2, 3)}},
		{[]uint32{3, 2}, []api.Gap{gap(2, 3)}},
		{[]uint32{2, 4}, []api.Gap{gap(2, 2), gap(4, 4)}},
		{[]uint32{4, 2, 3}, []api.Gap{gap(2, 4)}},
		{[]uint32{512}, []api.Gap{gap(512, 512)}},
		{[]uint32{512, 511, 509}, []api.Gap{gap(509, 509), gap(511, 512)}},
		{[]uint32{255, 256, 257, 258}, []api.Gap{gap(255, 258)}},
		{[]uint32{100, 9, 8, 7, 101, 99, 5}, []api.Gap{gap(5, 5), gap(7, 9), gap(99, 101)}},
	}
	for _, first := range firsts {
		for _, c := range cases {
			x := New(first)
			for _, d := range c.above {
				gets(t, x, api.OK, first-1+d)
			}
			tells(t, x, api.Heard{Cum: first - 1, Window: 77, Gaps: c.want})
			tells(t, x, api.Heard{Cum: first - 1, Window: 78, Gaps: c.want})
		}
	}
}

// TestTellOfManyRuns: the first 64 of them, whole; Ahead has them all.
func TestTellOfManyRuns(t *testing.T) {
	for _, first := range firsts {
		for _, runs := range []int{1, 2, 63, 64, 65, 66, 128, 255, 256} {
			x := New(first)
			list := run(first+1, runs, 2)
			shuffled := slices.Clone(list)
			rand.New(rand.NewSource(int64(runs))).Shuffle(runs, func(i, j int) { shuffled[i], shuffled[j] = shuffled[j], shuffled[i] })
			gets(t, x, api.OK, shuffled...)
			var want []api.Gap
			for i := range uint16(min(runs, 64)) {
				want = append(want, gap(2+2*i, 2+2*i))
			}
			stands(t, x, first-1, list...)
			tells(t, x, api.Heard{Cum: first - 1, Window: 5, Gaps: want})
			if runs < 66 {
				continue
			}
			gets(t, x, api.OK, first+128, first+130) // they join the last three of the first 66 runs
			want[63].To = 132
			tells(t, x, api.Heard{Cum: first - 1, Gaps: want})
			gets(t, x, api.OK, first+2, first) // Cum passes two runs, so that two others are told
			want = want[2:]
			for i := range want {
				want[i].From, want[i].To = want[i].From-4, want[i].To-4
			}
			for d := uint16(130); len(want) < 64 && int(d) <= 2*runs-4; d += 2 {
				want = append(want, gap(d, d))
			}
			tells(t, x, api.Heard{Cum: first + 3, Gaps: want})
		}
	}
}

// TestTellOfWindows: the window is told as it is given, and hangs on nothing else.
func TestTellOfWindows(t *testing.T) {
	x := New(7)
	gets(t, x, api.OK, 7, 9)
	for _, w := range append([]uint32{1500, 65536}, firsts...) {
		tells(t, x, api.Heard{Cum: 7, Window: w, Gaps: []api.Gap{gap(2, 2)}})
	}
}

// TestTellOfDuplicates: the first 64 since the last Tell, in the order in which they arrived, each as often as it arrived.
func TestTellOfDuplicates(t *testing.T) {
	for _, count := range []int{0, 1, 2, 63, 64, 65, 66, 128, 300} {
		x := New(4294967290)
		gets(t, x, api.OK, 4294967290, 4294967295)
		for range 2 {
			var all []uint32
			for i := range count {
				all = append(all, []uint32{4294967290, 4294967295, 4294967289, 4294967290, 9 + 1<<31, uint32(4294967280 - i)}[i%6])
			}
			gets(t, x, api.ErrThere, all...)
			stands(t, x, 4294967290, 4294967295)
			tells(t, x, api.Heard{Cum: 4294967290, Window: 8, Gaps: []api.Gap{gap(5, 5)}, Dups: all[:min(count, 64)]})
			tells(t, x, api.Heard{Cum: 4294967290, Window: 8, Gaps: []api.Gap{gap(5, 5)}})
		}
	}
}

// TestFullOfDuplicates: with 64 of them noted all else goes on.
func TestFullOfDuplicates(t *testing.T) {
	x := New(100)
	gets(t, x, api.ErrThere, run(36, 64, 1)...)
	gets(t, x, api.ErrThere, 5, 99, 99)
	gets(t, x, api.OK, 101, 100)
	gets(t, x, api.ErrThere, 101)
	gets(t, x, api.ErrFull, 614)
	stands(t, x, 101)
	if len(x.dups) != 64 {
		t.Errorf("%d duplicates are kept", len(x.dups))
	}
	tells(t, x, api.Heard{Cum: 101, Dups: run(36, 64, 1)})
	gets(t, x, api.ErrThere, 7)
	tells(t, x, api.Heard{Cum: 101, Dups: []uint32{7}})
}

// TestDuplicatesStay: they are told even when Cum has passed them since.
func TestDuplicatesStay(t *testing.T) {
	x := New(0)
	gets(t, x, api.OK, 1)
	gets(t, x, api.ErrThere, 1)
	gets(t, x, api.OK, 0, 2)
	stands(t, x, 2)
	tells(t, x, api.Heard{Cum: 2, Dups: []uint32{1}})
}

// TestErrFullChangesNothing: neither what arrived nor what is told.
func TestErrFullChangesNothing(t *testing.T) {
	for _, first := range firsts {
		x := New(first)
		gets(t, x, api.OK, first+2)
		gets(t, x, api.ErrThere, first-9)
		for d := uint32(513); d < 1<<31; d = d*2 + 1 {
			gets(t, x, api.ErrFull, first-1+d, first-1+d)
			stands(t, x, first-1, first+2)
		}
		tells(t, x, api.Heard{Cum: first - 1, Gaps: []api.Gap{gap(3, 3)}, Dups: []uint32{first - 9}})
	}
}

// TestTellFitsInAChunk: what is told is what a Sack may say.
func TestTellFitsInAChunk(t *testing.T) {
	x := New(4294967000)
	gets(t, x, api.OK, run(4294967001, 256, 2)...)
	gets(t, x, api.ErrThere, run(4294966000, 70, 1)...)
	h := x.Tell(1 << 20)
	c, e := chunk.FromHeard(h)
	if e != api.OK {
		t.Fatalf("FromHeard(%v) = %d", h, e)
	}
	if back, e := chunk.ToHeard(c); e != api.OK || !same(back, h) || len(back.Gaps) != 64 || len(back.Dups) != 64 {
		t.Errorf("ToHeard of %v = %v, %d", h, back, e)
	}
}

func TestNil(t *testing.T) {
	var x *Track
	for _, n := range append([]uint32{1 << 31, 513}, firsts...) {
		gets(t, x, api.ErrArg, n, n)
		if h := x.Tell(n); !same(h, api.Heard{}) || h.Gaps != nil || h.Dups != nil {
			t.Errorf("Tell(%d) of no Track = %v", n, h)
		}
		stands(t, x, 0)
	}
	if x.Ahead() != nil {
		t.Errorf("Ahead() of no Track = %v", x.Ahead())
	}
}

// TestZeroValue: a Track that New didn't make is one of New(1).
func TestZeroValue(t *testing.T) {
	x := new(Track)
	stands(t, x, 0)
	tells(t, x, api.Heard{Window: 4})
	gets(t, x, api.ErrThere, 0, 1<<31)
	gets(t, x, api.ErrFull, 513)
	gets(t, x, api.OK, 2, 512)
	stands(t, x, 0, 2, 512)
	gets(t, x, api.OK, 1)
	tells(t, x, api.Heard{Cum: 2, Gaps: []api.Gap{gap(510, 510)}, Dups: []uint32{0, 1 << 31}})
}

// TestTracksAreApart: what arrives at one Track shows in no other one.
func TestTracksAreApart(t *testing.T) {
	a, b := New(5), New(5)
	gets(t, a, api.OK, 5, 7)
	gets(t, a, api.ErrThere, 5)
	stands(t, b, 4)
	gets(t, b, api.OK, 7, 8)
	gets(t, b, api.ErrThere, 8)
	stands(t, a, 5, 7)
	stands(t, b, 4, 7, 8)
	tells(t, a, api.Heard{Cum: 5, Gaps: []api.Gap{gap(2, 2)}, Dups: []uint32{5}})
	tells(t, b, api.Heard{Cum: 4, Gaps: []api.Gap{gap(3, 4)}, Dups: []uint32{8}})
}

// spoil overwrites a list, and what is behind its end.
func spoil[T any](list []T, with T) {
	list = list[:cap(list)]
	for i := range list {
		list[i] = with
	}
}

// TestResultsShareNoMemory: what is done to a result shows neither in the Track nor in another result.
func TestResultsShareNoMemory(t *testing.T) {
	for count := range 70 {
		x, p := New(9), plainTrack{first: 9}
		for i := range uint32(count) {
			for _, n := range []uint32{10 + 2*i, 10 + 2*i} {
				x.Got(n)
				p.got(n)
			}
		}
		a, h := x.Ahead(), x.Tell(1)
		want := p.tell(1)
		spoil(a, 1)
		if !same(h, want) {
			t.Fatalf("Tell = %v, want %v", h, want)
		}
		x.Got(10)
		p.got(10)
		stands(t, x, p.cum(), p.ahead()...)
		b := x.Ahead()
		spoil(h.Gaps, gap(1, 1))
		spoil(h.Dups, 1)
		stands(t, x, p.cum(), p.ahead()...)
		second, wanted := x.Tell(2), p.tell(2)
		spoil(x.Tell(2).Gaps, gap(4, 4))
		x.Got(9)
		x.Got(9)
		if !same(second, wanted) || !slices.Equal(b, run(10, count, 2)) && count > 0 {
			t.Fatalf("Tell = %v, want %v; Ahead = %v", second, wanted, b)
		}
	}
}

// TestLookingChangesNothing: Cum and Ahead, called often, show what was there before, and Tell forgets nothing but duplicates.
func TestLookingChangesNothing(t *testing.T) {
	x := New(4294967295)
	gets(t, x, api.OK, 0, 3, 2)
	gets(t, x, api.ErrThere, 2)
	for range 3 {
		stands(t, x, 4294967294, 0, 2, 3)
	}
	tells(t, x, api.Heard{Cum: 4294967294, Gaps: []api.Gap{gap(2, 2), gap(4, 5)}, Dups: []uint32{2}})
	for range 3 {
		tells(t, x, api.Heard{Cum: 4294967294, Gaps: []api.Gap{gap(2, 2), gap(4, 5)}})
		stands(t, x, 4294967294, 0, 2, 3)
	}
	gets(t, x, api.OK, 4294967295, 1)
	stands(t, x, 3)
}

// pair is a Track and the plain one, which are asked the same.
type pair struct {
	x *Track
	p plainTrack
}

func paired(first uint32) *pair {
	return &pair{New(first), plainTrack{first: first}}
}

// got fails where the two differ.
func (b *pair) got(t *testing.T, tsn uint32) {
	t.Helper()
	if got, want := b.x.Got(tsn), b.p.got(tsn); got != want || b.x.Cum() != b.p.cum() {
		t.Fatalf("Got(%d) = %d, want %d; Cum() = %d, want %d", tsn, got, want, b.x.Cum(), b.p.cum())
	}
}

// check fails where the two differ, Tell's duplicates aside if they aren't asked for.
func (b *pair) check(t *testing.T, tell bool, window uint32) {
	t.Helper()
	stands(t, b.x, b.p.cum(), b.p.ahead()...)
	if tell {
		tells(t, b.x, b.p.tell(window))
	}
}

// TestAnySteps: numbers that arrive out of order, again and too far away.
func TestAnySteps(t *testing.T) {
	for i, first := range firsts {
		r := rand.New(rand.NewSource(int64(i)))
		b := paired(first)
		reach := []int{3, 20, 100, 530}[i%4]
		for step := range 4000 {
			n := b.p.cum() + uint32(r.Intn(reach)-reach/8)
			switch r.Intn(60) {
			case 0:
				n = r.Uint32()
			case 1, 2, 3, 4, 5, 6, 7, 8:
				n = b.p.cum() + 1
			}
			b.got(t, n)
			if step%16 == 0 {
				b.check(t, r.Intn(8) == 0, r.Uint32())
			}
		}
		b.check(t, true, 1)
	}
}

// TestTwiceTheSame: the same calls have the same results, in whatever order a map is gone through.
func TestTwiceTheSame(t *testing.T) {
	for range 20 {
		x := New(4294967290)
		gets(t, x, api.OK, 5, 1, 4294967291, 4294967295, 0, 100)
		gets(t, x, api.ErrThere, 1, 4294967289)
		stands(t, x, 4294967289, 4294967291, 4294967295, 0, 1, 5, 100)
		tells(t, x, api.Heard{Cum: 4294967289, Window: 6, Gaps: []api.Gap{gap(2, 2), gap(6, 8), gap(12, 12), gap(107, 107)}, Dups: []uint32{1, 4294967289}})
	}
}

// FuzzAnyArguments holds the calls against the plain Track: each two bytes are a distance from Cum, and what is asked behind it.
func FuzzAnyArguments(f *testing.F) {
	f.Add([]byte(nil), uint32(0), uint32(0))
	f.Add([]byte{3, 0, 2, 0, 2, 0, 1, 1, 2, 2, 1, 7, 255, 9}, uint32(4294967295), uint32(514))
	for _, x := range firsts {
		f.Add([]byte{0, 0, 1, 0, 255, 1, 0, 2, 1, 2, 2, 2, 0, 6, 1, 3}, x, x+1<<31)
	}
	f.Fuzz(func(t *testing.T, steps []byte, first, any uint32) {
		b := paired(first)
		steps = steps[:min(len(steps), 1000)]
		for ; len(steps) >= 2; steps = steps[2:] {
			kind := steps[1]
			n := b.p.cum() + uint32(steps[0]) + uint32(kind&3)*256
			if kind&4 != 0 {
				n = b.p.cum() - uint32(steps[0])
			}
			if kind&248 == 8 {
				n = any
			}
			b.got(t, n)
			if kind&32 != 0 {
				b.check(t, kind&64 != 0, any)
			}
		}
		b.got(t, any)
		b.check(t, true, any)
	})
}
