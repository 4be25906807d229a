package crc

import (
	"bytes"
	"hash/crc32"
	"math"
	"slices"
	"testing"
)

// sums: starting sums with bits of all kinds, and those that a register of no ones or of all ones stands for.
var sums = []uint32{0, 1, 7, 0x80000000, 0x7fffffff, 0x82f63b78, 0xe3069283, 0x12345678, 0xfffffffe, math.MaxUint32}

// wantMore says what the RFC asks, one bit after the other, with the polynomial as it is written there: the register stands from the highest power down, and the bytes' bits come lowest first.
func wantMore(sum uint32, b []byte) uint32 {
	register := mirrored(^sum)
	for _, x := range b {
		for bit := range 8 {
			out := register>>31 != uint32(x>>bit&1)
			register <<= 1
			if out {
				register ^= 0x1edc6f41
			}
		}
	}
	return ^mirrored(register)
}

func mirrored(n uint32) uint32 {
	var r uint32
	for range 32 {
		r = r<<1 | n&1
		n >>= 1
	}
	return r
}

// mixed returns n bytes that look like any: the same ones for the same seed.
func mixed(n int, seed uint32) []byte {
	b := make([]byte, n)
	for i := range b {
		seed = seed*1664525 + 1013904223
		b[i] = byte(seed >> 24)
	}
	return b
}

// counted returns n bytes that go up from first by one each, or down.
func counted(n int, first, by byte) []byte {
	b := make([]byte, n)
	for i := range b {
		b[i] = first
		first += by
	}
	return b
}

func TestSumOrdinary(t *testing.T) {
	cases := []struct {
		b    []byte
		want uint32
	}{
		{nil, 0},
		{[]byte{}, 0},
		{[]byte("123456789"), 0xe3069283},
		{[]byte{0}, 0x527d5351},
		{[]byte("a"), 0xc1d04330},
		{[]byte("abc"), 0x364b3fb7},
		{make([]byte, 32), 0x8a9136aa},
		{bytes.Repeat([]byte{255}, 32), 0x62a8ab43},
		{counted(32, 0, 1), 0x46dd794e},
		{counted(32, 31, 255), 0x113fdb5c},
	}
	for _, c := range cases {
		if got := Sum(c.b); got != c.want {
			t.Errorf("Sum(%v) = %08x, want %08x", c.b, got, c.want)
		}
	}
}

// TestSumOfEveryByte: every byte alone, and at every place of a few.
func TestSumOfEveryByte(t *testing.T) {
	for x := range 256 {
		for n := 1; n <= 9; n++ {
			for at := range n {
				b := make([]byte, n)
				b[at] = byte(x)
				if got, want := Sum(b), wantMore(0, b); got != want {
					t.Errorf("Sum(%v) = %08x, want %08x", b, got, want)
				}
			}
		}
	}
}

// TestSumOfEveryLength holds Sum against the RFC's words and against the library's, from every place in memory.
func TestSumOfEveryLength(t *testing.T) {
	all := mixed(600, 3)
	library := crc32.MakeTable(crc32.Castagnoli)
	for n := range 590 {
		b := all[n%9 : n%9+n]
		got := Sum(b)
		if want := wantMore(0, b); got != want {
			t.Errorf("Sum of %d bytes = %08x, want %08x", n, got, want)
		}
		if want := crc32.Checksum(b, library); got != want {
			t.Errorf("Sum of %d bytes = %08x, the library has %08x", n, got, want)
		}
	}
	for _, n := range []int{4095, 4096, 4097, 1<<20 + 3} {
		b := mixed(n, uint32(n))
		if got, want := Sum(b), crc32.Checksum(b, library); got != want {
			t.Errorf("Sum of %d bytes = %08x, the library has %08x", n, got, want)
		}
	}
}

func TestMoreOrdinary(t *testing.T) {
	cases := []struct {
		sum  uint32
		b    string
		want uint32
	}{
		{Sum([]byte("1234")), "56789", 0xe3069283},
		{Sum([]byte("12345678")), "9", 0xe3069283},
		{0, "123456789", 0xe3069283}, // 0 is the Sum of nothing
		{0xe3069283, "", 0xe3069283},
		{math.MaxUint32, "\x00\x00\x00\x00\x00", math.MaxUint32}, // a register of no ones stays so
	}
	for _, c := range cases {
		if got := More(c.sum, []byte(c.b)); got != c.want {
			t.Errorf("More(%08x, %q) = %08x, want %08x", c.sum, c.b, got, c.want)
		}
	}
}

func TestMoreOfNothing(t *testing.T) {
	for _, sum := range sums {
		if got := More(sum, nil); got != sum {
			t.Errorf("More(%08x, nil) = %08x", sum, got)
		}
		if got := More(sum, []byte{}); got != sum {
			t.Errorf("More(%08x, []byte{}) = %08x", sum, got)
		}
	}
}

// TestMoreOfEverySum: from any sum, the bytes count as the RFC's words have it.
func TestMoreOfEverySum(t *testing.T) {
	for _, sum := range sums {
		for n := range 40 {
			b := mixed(n, sum)
			if got, want := More(sum, b), wantMore(sum, b); got != want {
				t.Errorf("More(%08x, %v) = %08x, want %08x", sum, b, got, want)
			}
		}
	}
}

// TestMoreOfEveryPart: wherever a string is parted, its parts one after the other have its Sum.
func TestMoreOfEveryPart(t *testing.T) {
	b := mixed(50, 11)
	want := Sum(b)
	for i := range len(b) + 1 {
		for j := i; j <= len(b); j++ {
			if got := More(More(Sum(b[:i]), b[i:j]), b[j:]); got != want {
				t.Errorf("Sum of %d, %d and %d bytes = %08x, want %08x", i, j-i, len(b)-j, got, want)
			}
		}
	}
	single := uint32(0)
	for i := range b {
		single = More(single, b[i:i+1])
	}
	if single != want {
		t.Errorf("Sum of single bytes = %08x, want %08x", single, want)
	}
}

func TestZerosOrdinary(t *testing.T) {
	cases := []struct {
		sum  uint32
		n    int
		want uint32
	}{
		{0, 32, 0x8a9136aa},
		{0, 1, 0x527d5351},
		{7, 0, 7},
		{0, 0, 0},
		{math.MaxUint32, 1, math.MaxUint32},
		{math.MaxUint32, math.MaxInt, math.MaxUint32},
	}
	for _, c := range cases {
		if got := Zeros(c.sum, c.n); got != c.want {
			t.Errorf("Zeros(%08x, %d) = %08x, want %08x", c.sum, c.n, got, c.want)
		}
	}
}

// TestZerosOfEveryCount holds Zeros against the zero bytes themselves.
func TestZerosOfEveryCount(t *testing.T) {
	zeros := make([]byte, 1<<16+1)
	counts := []int{511, 512, 513, 1023, 1024, 4095, 4096, 1<<16 - 1, 1 << 16, 1<<16 + 1}
	for n := range 300 {
		counts = append(counts, n)
	}
	for _, sum := range sums {
		for _, n := range counts {
			if got, want := Zeros(sum, n), More(sum, zeros[:n]); got != want {
				t.Errorf("Zeros(%08x, %d) = %08x, want %08x", sum, n, got, want)
			}
		}
	}
}

func TestZerosOfFewerThanNone(t *testing.T) {
	for _, sum := range sums {
		for _, n := range []int{0, -1, -2, -8, -1 << 31, -1 << 60, math.MinInt + 1, math.MinInt} {
			if got := Zeros(sum, n); got != sum {
				t.Errorf("Zeros(%08x, %d) = %08x", sum, n, got)
			}
		}
	}
}

// TestZerosOfHugeCounts: counts add up, also those that nobody can go through byte by byte.
func TestZerosOfHugeCounts(t *testing.T) {
	counts := []int{0, 1, 3, 1 << 20, 1<<31 - 1, 1 << 31, 1<<32 + 5, 1 << 40, 1 << 59, 1<<61 - 1, 1 << 61, 1<<61 + 12345}
	for _, sum := range sums {
		for _, n := range counts {
			for _, m := range counts {
				if got, want := Zeros(Zeros(sum, n), m), Zeros(sum, n+m); got != want {
					t.Errorf("Zeros(Zeros(%08x, %d), %d) = %08x, want %08x", sum, n, m, got, want)
				}
			}
		}
	}
}

// TestZerosComeRound: the polynomial is x + 1 times one whose steps come round after 2^31 - 1; so the zero bytes do, from every sum, and as many that are left over are as few.
func TestZerosComeRound(t *testing.T) {
	const circle = 1<<31 - 1
	cases := []struct{ n, few int }{
		{circle, 0},
		{circle + 1, 1},
		{5*circle + 33, 33},
		{1 << 31, 1},
		{1<<32 - 1, 1},
		{1 << 62, 1},
		{1<<62 + 9, 10},
		{1 << 36, 32},
		{math.MaxInt - 1, 0},
		{math.MaxInt, 1},
	}
	for _, sum := range sums {
		for _, c := range cases {
			if got, want := Zeros(sum, c.n), wantMore(sum, make([]byte, c.few)); got != want {
				t.Errorf("Zeros(%08x, %d) = %08x, want %08x, as of %d bytes", sum, c.n, got, want, c.few)
			}
		}
	}
}

// TestZerosInTheMiddle: a string that is zero in between has the Sum that its ends have with Zeros between them.
func TestZerosInTheMiddle(t *testing.T) {
	b := mixed(64, 5)
	for from := range len(b) + 1 {
		for to := from; to <= len(b); to++ {
			hollow := slices.Clone(b)
			clear(hollow[from:to])
			if got, want := More(Zeros(Sum(b[:from]), to-from), b[to:]), Sum(hollow); got != want {
				t.Errorf("with zeros from %d to %d: %08x, want %08x", from, to, got, want)
			}
		}
	}
}

// changed returns b with the bits of mask turned over from the bit at on; a byte's lowest bit is its first.
func changed(b []byte, at int, mask uint32) []byte {
	r := slices.Clone(b)
	for i := range 32 {
		if mask>>i&1 == 1 {
			r[(at+i)/8] ^= 1 << ((at + i) % 8)
		}
	}
	return r
}

// TestNearStringsDiffer: what differs within 32 consecutive bits only has another Sum.
func TestNearStringsDiffer(t *testing.T) {
	b := mixed(20, 17)
	sum := Sum(b)
	masks := []uint32{1, 3, 0x80000001, 0x82f63b78, 0x1edc6f41, 0xdb710641, 0x05ec76f1, 0x55555555, math.MaxUint32}
	for i := range 32 {
		masks = append(masks, math.MaxUint32<<i, math.MaxUint32>>i, 1<<i|1, 0x80000000|1<<i)
	}
	for n := range uint32(500) {
		masks = append(masks, n*0x9e3779b1+1)
	}
	for _, mask := range masks {
		for at := range 8*len(b) - 31 {
			if Sum(changed(b, at, mask)) == sum {
				t.Errorf("the bits %08x from %d on make no difference", mask, at)
			}
		}
	}
}

// TestNoDifferenceIsLost: each bit of the 32 makes a difference of its own, which none of the others, nor several of them together, can take back. So no strings that differ within 32 bits have one Sum.
func TestNoDifferenceIsLost(t *testing.T) {
	for _, size := range []int{4, 5, 20, 512} {
		b := mixed(size, uint32(size))
		for _, at := range []int{0, 3, 8*size/2 - 16, 8*size - 32} {
			if at < 0 || at > 8*size-32 {
				continue
			}
			var by [32]uint32 // differences that have been found, by their highest bit
			for i := range 32 {
				d := Sum(changed(b, at, 1<<i)) ^ Sum(b)
				for top := 31; top >= 0 && d != 0; top-- {
					switch {
					case d>>top&1 == 0:
					case by[top] == 0:
						by[top], d = d, 0
					default:
						d ^= by[top]
					}
				}
			}
			if slices.Contains(by[:], 0) {
				t.Errorf("of %d bytes, from bit %d on: differences get lost", size, at)
			}
		}
	}
}

// TestArgumentsAreLeftAlone: no call changes its argument, not even its spare capacity, nor reads behind its end.
func TestArgumentsAreLeftAlone(t *testing.T) {
	for n := range 20 {
		whole := mixed(64, 23)
		before := slices.Clone(whole)
		want := Sum(slices.Clone(whole[:n]))
		if got := Sum(whole[:n]); got != want {
			t.Errorf("Sum of %d bytes with others behind them = %08x, want %08x", n, got, want)
		}
		if got, want := More(9, whole[:n]), More(9, slices.Clone(whole[:n:n])); got != want {
			t.Errorf("More of %d bytes with others behind them = %08x, want %08x", n, got, want)
		}
		if !bytes.Equal(whole, before) {
			t.Errorf("a call of %d bytes changed its argument: %v", n, whole)
		}
	}
}

// TestTwiceTheSame: nothing is kept between calls.
func TestTwiceTheSame(t *testing.T) {
	b := []byte("123456789")
	for range 2 {
		if n := Sum(b); n != 0xe3069283 {
			t.Errorf("Sum = %08x", n)
		}
		if n := More(0xe3069283, b); n != wantMore(0xe3069283, b) {
			t.Errorf("More = %08x", n)
		}
		if n := Zeros(0, 32); n != 0x8a9136aa {
			t.Errorf("Zeros = %08x", n)
		}
	}
}

// FuzzAnyArguments holds every call against the chapter's words, for whatever is given.
func FuzzAnyArguments(f *testing.F) {
	f.Add(uint32(0), []byte(nil), 0)
	f.Add(uint32(7), []byte("123456789"), 32)
	f.Add(uint32(math.MaxUint32), []byte{0, 255, 0, 1}, math.MaxInt)
	f.Add(uint32(1<<31), []byte{1}, math.MinInt)
	f.Fuzz(func(t *testing.T, sum uint32, b []byte, n int) {
		if got, want := Sum(b), wantMore(0, b); got != want {
			t.Errorf("Sum(%v) = %08x, want %08x", b, got, want)
		}
		if got, want := More(sum, b), wantMore(sum, b); got != want {
			t.Errorf("More(%08x, %v) = %08x, want %08x", sum, b, got, want)
		}
		few := max(n, 0) % (1 << 12)
		if got, want := Zeros(sum, few), wantMore(sum, make([]byte, few)); got != want {
			t.Errorf("Zeros(%08x, %d) = %08x, want %08x", sum, few, got, want)
		}
		rest := max(n, 0) - few
		if got, want := Zeros(sum, n), Zeros(Zeros(sum, rest), few); got != want {
			t.Errorf("Zeros(%08x, %d) = %08x, want %08x", sum, n, got, want)
		}
	})
}
