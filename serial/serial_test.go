package serial

import (
	"math"
	"math/big"
	"testing"
)

const (
	half16 = 1 << 15
	half32 = 1 << 31
	round  = 1 << 32
)

// corners16, corners32: the numbers around the ends, and around the middle, of the circles.
var (
	corners16 = []uint16{0, 1, 2, 255, 256, half16 - 2, half16 - 1, half16, half16 + 1, half16 + 2, math.MaxUint16 - 1, math.MaxUint16}
	corners32 = []uint32{0, 1, 2, 5, half16 - 1, half16, half16 + 1, 65535, 65536, 65537, half32 - 2, half32 - 1, half32, half32 + 1, half32 + 2, 4294967290, math.MaxUint32 - 1, math.MaxUint32}
)

// cornersWide: the numbers around the ends of what 64 bits hold, and around the rounds of 32 bits in between.
func cornersWide() []uint64 {
	var all []uint64
	for _, n := range []uint64{0, half32, round, round + half32, 2 * round, 1 << 40, 1 << 63, math.MaxUint64 - round, math.MaxUint64 - half32, math.MaxUint64} {
		for d := uint64(0); d < 4; d++ {
			all = append(all, n+d, n-d) // these wrap round: numbers at the other end are welcome
		}
	}
	return all
}

// wantOrder says what the chapter asks of two numbers on a circle of size numbers: it goes by remainders of signed numbers, not by wrapping round.
func wantOrder(a, b, size int64) (int, bool) {
	ahead := ((b-a)%size + size) % size
	back := ((a-b)%size + size) % size
	if a == b {
		return 0, true
	}
	if 1 <= ahead && ahead <= size/2-1 {
		return -1, true
	}
	if 1 <= back && back <= size/2-1 {
		return 1, true
	}
	return 0, false
}

func TestOrder16Ordinary(t *testing.T) {
	cases := []struct {
		a, b uint16
		want int
		ok   bool
	}{
		{65535, 2, -1, true},
		{2, 65535, 1, true},
		{3, 4, -1, true},
		{4, 3, 1, true},
		{100, 200, -1, true},
		{200, 100, 1, true},
		{7, 7, 0, true},
		{0, 0, 0, true},
		{65535, 65535, 0, true},
		{65535, 0, -1, true},
		{0, 65535, 1, true},
		// The last distance that is an order, and those behind it.
		{0, 32767, -1, true},
		{0, 32768, 0, false},
		{0, 32769, 1, true},
		{32768, 0, 0, false},
		{32767, 0, 1, true},
		{32769, 0, -1, true},
		{10, 32777, -1, true},
		{10, 32778, 0, false},
		{10, 32779, 1, true},
		{40000, 7231, -1, true},
		{40000, 7232, 0, false},
		{40000, 7233, 1, true},
		{32767, 65535, 0, false},
	}
	for _, c := range cases {
		if got, ok := Order16(c.a, c.b); got != c.want || ok != c.ok {
			t.Errorf("Order16(%d, %d) = %d, %v, want %d, %v", c.a, c.b, got, ok, c.want, c.ok)
		}
	}
}

func TestOrder32Ordinary(t *testing.T) {
	cases := []struct {
		a, b uint32
		want int
		ok   bool
	}{
		{3, 4, -1, true},
		{4, 3, 1, true},
		{7, 7, 0, true},
		{0, 0, 0, true},
		{math.MaxUint32, math.MaxUint32, 0, true},
		{math.MaxUint32, 0, -1, true},
		{0, math.MaxUint32, 1, true},
		{4294967290, 5, -1, true},
		{5, 4294967290, 1, true},
		// What is half round for 16 bits is nothing special here.
		{0, 32768, -1, true},
		{0, 32769, -1, true},
		{65535, 2, 1, true},
		{0, 65536, -1, true},
		// The last distance that is an order, and those behind it.
		{0, half32 - 1, -1, true},
		{0, half32, 0, false},
		{0, half32 + 1, 1, true},
		{half32, 0, 0, false},
		{half32 - 1, 0, 1, true},
		{half32 + 1, 0, -1, true},
		{5, half32 + 4, -1, true},
		{5, half32 + 5, 0, false},
		{5, half32 + 6, 1, true},
		{3000000000, 852516351, -1, true},
		{3000000000, 852516352, 0, false},
		{3000000000, 852516353, 1, true},
	}
	for _, c := range cases {
		if got, ok := Order32(c.a, c.b); got != c.want || ok != c.ok {
			t.Errorf("Order32(%d, %d) = %d, %v, want %d, %v", c.a, c.b, got, ok, c.want, c.ok)
		}
	}
}

// TestOrder16OfEveryDistance goes once all round from each corner.
func TestOrder16OfEveryDistance(t *testing.T) {
	for _, a := range corners16 {
		for n := range 1 << 16 {
			b := uint16(n)
			want, sure := wantOrder(int64(a), int64(b), 1<<16)
			if got, ok := Order16(a, b); got != want || ok != sure {
				t.Fatalf("Order16(%d, %d) = %d, %v, want %d, %v", a, b, got, ok, want, sure)
			}
		}
	}
}

func TestOrder32OfCorners(t *testing.T) {
	for _, a := range corners32 {
		for _, d := range corners32 {
			for _, b := range []uint32{d, a + d, a - d} {
				want, sure := wantOrder(int64(a), int64(b), round)
				if got, ok := Order32(a, b); got != want || ok != sure {
					t.Errorf("Order32(%d, %d) = %d, %v, want %d, %v", a, b, got, ok, want, sure)
				}
			}
		}
	}
}

func TestWithinOrdinary(t *testing.T) {
	cases := []struct {
		low, high, x uint32
		want         bool
	}{
		{10, 20, 9, false},
		{10, 20, 10, true},
		{10, 20, 15, true},
		{10, 20, 20, true},
		{10, 20, 21, false},
		{10, 20, 0, false},
		{10, 20, math.MaxUint32, false},
		// Over the end of the circle.
		{4294967290, 5, 1, true},
		{4294967290, 5, 4294967289, false},
		{4294967290, 5, 4294967290, true},
		{4294967290, 5, math.MaxUint32, true},
		{4294967290, 5, 0, true},
		{4294967290, 5, 5, true},
		{4294967290, 5, 6, false},
		{4294967290, 5, half32, false},
		// One number alone.
		{5, 5, 4, false},
		{5, 5, 5, true},
		{5, 5, 6, false},
		{0, 0, 0, true},
		{0, 0, math.MaxUint32, false},
		{math.MaxUint32, math.MaxUint32, 0, false},
		// All numbers: once round, from wherever.
		{0, math.MaxUint32, 0, true},
		{0, math.MaxUint32, half32, true},
		{0, math.MaxUint32, math.MaxUint32, true},
		{6, 5, 5, true},
		{6, 5, 6, true},
		{6, 5, 3000000000, true},
		// All but one.
		{6, 4, 4, true},
		{6, 4, 5, false},
		{6, 4, 6, true},
		// More than half round: Within has no middle.
		{0, half32, half32, true},
		{0, half32 + 1, half32 + 1, true},
		{0, half32 + 1, half32 + 2, false},
		{100, 50, 75, false},
		{100, 50, 3000000000, true},
	}
	for _, c := range cases {
		if got := Within(c.low, c.high, c.x); got != c.want {
			t.Errorf("Within(%d, %d, %d) = %v, want %v", c.low, c.high, c.x, got, c.want)
		}
	}
}

// wantWithin goes by where the numbers stand on a line: high and x are put behind low, one round on if need be.
func wantWithin(low, high, x uint32) bool {
	l, h, n := int64(low), int64(high), int64(x)
	if h < l {
		h += round
	}
	if n < l {
		n += round
	}
	return n <= h
}

func TestWithinOfCorners(t *testing.T) {
	for _, low := range corners32 {
		for _, high := range corners32 {
			for _, c := range corners32 {
				for _, x := range []uint32{c, low + c, low - c, high + c, high - c} {
					if got, want := Within(low, high, x), wantWithin(low, high, x); got != want {
						t.Errorf("Within(%d, %d, %d) = %v, want %v", low, high, x, got, want)
					}
				}
			}
		}
	}
}

func TestWideOrdinary(t *testing.T) {
	cases := []struct {
		near uint64
		low  uint32
		want uint64
	}{
		{4294967290, 3, 4294967299},
		{0, 0, 0},
		{7, 7, 7},
		{7, 9, 9},
		{9, 7, 7},
		{5*round + 100, 90, 5*round + 90},
		{5*round + 100, 110, 5*round + 110},
		{5*round + 100, 100, 5*round + 100},
		// The round before and the round after.
		{5*round + 3, 4294967290, 4*round + 4294967290},
		{5*round + 4294967290, 3, 6*round + 3},
		{5 * round, math.MaxUint32, 5*round - 1},
		{5*round - 1, 0, 5 * round},
		// Two that are equally near, and those beside them.
		{round, half32, round + half32},
		{round, half32 - 1, round + half32 - 1},
		{round, half32 + 1, half32 + 1},
		{2 * round, half32, 2*round + half32},
		{round + half32, 0, 2 * round},
		{round + half32 + 1, 0, 2 * round},
		{round + half32 - 1, 0, round},
		{5*round + 100, half32 + 100, 5*round + half32 + 100},
		{5*round + 100, half32 + 101, 4*round + half32 + 101},
		{5*round + half32 + 100, 100, 6*round + 100},
		{5*round + half32 + 99, 100, 5*round + 100},
		{1 << 63, half32, 1<<63 + half32},
		// There is no number under 0: what is further up is the nearest.
		{0, 1, 1},
		{0, math.MaxUint32, math.MaxUint32},
		{3, 4294967290, 4294967290},
		{0, half32, half32},
		{0, half32 + 1, half32 + 1},
		{half32 - 2, math.MaxUint32, math.MaxUint32},
		{half32, 0, round},
		{half32 - 1, 0, 0},
		{round - 1, 0, round},
		{round, 0, round},
		{round, math.MaxUint32, math.MaxUint32},
		{round + 3, 4294967290, 4294967290},
		{4294967289, 4294967290, 4294967290},
		// Nor is there one above the greatest.
		{math.MaxUint64, math.MaxUint32, math.MaxUint64},
		{math.MaxUint64, math.MaxUint32 - 1, math.MaxUint64 - 1},
		{math.MaxUint64, 0, math.MaxUint64 - math.MaxUint32},
		{math.MaxUint64, 5, math.MaxUint64 - round + 6},
		{math.MaxUint64, half32, math.MaxUint64 - half32 + 1},
		{math.MaxUint64, half32 - 1, math.MaxUint64 - half32},
		{math.MaxUint64 - half32 + 1, 0, math.MaxUint64 - math.MaxUint32},
		{math.MaxUint64 - half32, math.MaxUint32, math.MaxUint64},
		{math.MaxUint64 - round, 0, math.MaxUint64 - math.MaxUint32},
		{math.MaxUint64 - round, math.MaxUint32, math.MaxUint64 - round},
	}
	for _, c := range cases {
		if got := Wide(c.near, c.low); got != c.want {
			t.Errorf("Wide(%d, %d) = %d, want %d", c.near, c.low, got, c.want)
		}
	}
}

// wantWide takes the nearest of the candidates in the round of near, in the one before and in the one after, in numbers that have no end.
func wantWide(near uint64, low uint32) uint64 {
	here := new(big.Int).SetUint64(near)
	var best, least *big.Int
	for k := int64(-1); k <= 1; k++ {
		n := new(big.Int).SetUint64(near >> 32)
		n.Add(n, big.NewInt(k)).Lsh(n, 32).Add(n, big.NewInt(int64(low)))
		if n.Sign() < 0 || !n.IsUint64() {
			continue
		}
		away := new(big.Int).Sub(n, here)
		away.Abs(away)
		if best == nil || away.Cmp(least) <= 0 { // of equally near ones the greater one comes later
			best, least = n, away
		}
	}
	return best.Uint64()
}

func TestWideOfCorners(t *testing.T) {
	for _, near := range cornersWide() {
		for _, c := range corners32 {
			for _, low := range []uint32{c, uint32(near) + c, uint32(near) - c} {
				got, want := Wide(near, low), wantWide(near, low)
				if got != want {
					t.Errorf("Wide(%d, %d) = %d, want %d", near, low, got, want)
				}
			}
		}
	}
}

// TestTwiceTheSame: nothing is kept between calls.
func TestTwiceTheSame(t *testing.T) {
	for range 2 {
		if n, ok := Order16(1, 2); n != -1 || !ok {
			t.Errorf("Order16 = %d, %v", n, ok)
		}
		if n, ok := Order32(2, 1); n != 1 || !ok {
			t.Errorf("Order32 = %d, %v", n, ok)
		}
		if !Within(1, 3, 2) || Within(3, 1, 2) {
			t.Error("Within")
		}
		if n := Wide(round, 9); n != round+9 {
			t.Errorf("Wide = %d", n)
		}
	}
}

// FuzzAnyArguments holds every call against the chapter's words, for whatever is given.
func FuzzAnyArguments(f *testing.F) {
	f.Add(uint32(0), uint32(0), uint32(0), uint64(0))
	f.Add(uint32(4294967290), uint32(5), uint32(1), uint64(4294967290))
	f.Add(uint32(half32), uint32(0), uint32(half32+1), uint64(math.MaxUint64))
	f.Add(uint32(half16), uint32(math.MaxUint32), uint32(65535), uint64(math.MaxUint64-half32))
	f.Fuzz(func(t *testing.T, a, b, x uint32, near uint64) {
		want, sure := wantOrder(int64(a), int64(b), round)
		if got, ok := Order32(a, b); got != want || ok != sure {
			t.Errorf("Order32(%d, %d) = %d, %v, want %d, %v", a, b, got, ok, want, sure)
		}
		want, sure = wantOrder(int64(uint16(a)), int64(uint16(b)), 1<<16)
		if got, ok := Order16(uint16(a), uint16(b)); got != want || ok != sure {
			t.Errorf("Order16(%d, %d) = %d, %v, want %d, %v", uint16(a), uint16(b), got, ok, want, sure)
		}
		if got := Within(a, b, x); got != wantWithin(a, b, x) {
			t.Errorf("Within(%d, %d, %d) = %v", a, b, x, got)
		}
		if got := Wide(near, x); got != wantWide(near, x) {
			t.Errorf("Wide(%d, %d) = %d, want %d", near, x, got, wantWide(near, x))
		}
	})
}
