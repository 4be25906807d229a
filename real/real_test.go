package real

import (
	"bytes"
	"math"
	"math/big"
	"slices"
	"testing"

	"trunkline/api"
)

const (
	least32 = math.SmallestNonzeroFloat32
	least64 = math.SmallestNonzeroFloat64
	most32  = math.MaxFloat32
	most64  = math.MaxFloat64
)

// nans32, nans64: the bits of NaNs of all kinds: of both signs, quiet and signalling, the least and the greatest.
var (
	nans32 = []uint32{0x7fc00000, 0x7fc00001, 0x7f800001, 0x7fbfffff, 0x7fa00000, 0x7fffffff, 0xffc00000, 0xff800001, 0xffbfffff, 0xffffffff}
	nans64 = []uint64{0x7ff8000000000000, 0x7ff8000000000001, 0x7ff0000000000001, 0x7ff7ffffffffffff, 0x7ff0000020000000, 0x7ff000001fffffff, 0x7fffffffffffffff, 0xfff8000000000000, 0xfff0000000000001, 0xfff7ffffffffffff, 0xffffffffffffffff}
)

// minusZero: a constant has no -0.
func minusZero() float64 { return math.Copysign(0, -1) }

// rising returns values of all kinds but NaN, from the lowest to the highest, each once.
func rising() []float64 {
	up := []float64{least64, 2 * least64, 3 * least64, 0x1p-1022 - least64, 0x1p-1022, 0x1p-1022 + least64, 1e-300,
		least32 / 2, least32, 1.5 * least32, 0x1p-126 - least32, 0x1p-126, 1e-30, 0.1, 0.5, 1 - 0x1p-53, 1, 1 + 0x1p-52, 1.5, 2, 3, 10, 1 << 24, 1<<24 + 1, 1 << 53, 1e30,
		most32, most32 + 0x1p102, 0x1p128 - 0x1p103, 0x1p128, 1e39, 0x1p970, 1e300, most64 / 2, math.Nextafter(most64, 0), most64, math.Inf(1)}
	var all []float64
	for _, f := range slices.Backward(up) {
		all = append(all, -f)
	}
	all = append(all, minusZero(), 0)
	return append(all, up...)
}

// same reports whether a and b are one value: zeros by their signs, all NaNs alike.
func same(a, b float64) bool {
	if a != a || b != b {
		return a != a && b != b
	}
	return a == b && math.Signbit(a) == math.Signbit(b)
}

// mixed returns n numbers that look like any.
func mixed(n int) []uint64 {
	all := make([]uint64, n)
	x := uint64(88172645463325252)
	for i := range all {
		x ^= x << 13
		x ^= x >> 7
		x ^= x << 17
		all[i] = x
	}
	return all
}

// wantBits says how a value stands in so many bits, of which expBits tell its power of two: it takes the value apart by arithmetic, not by its bits.
func wantBits(f float64, expBits, fracBits int) uint64 {
	var sign uint64
	if math.Signbit(f) {
		sign = 1 << (expBits + fracBits)
	}
	top := uint64(1)<<expBits - 1
	f = math.Abs(f)
	switch {
	case f != f:
		return top<<fracBits | 1<<(fracBits-1)
	case math.IsInf(f, 1):
		return sign | top<<fracBits
	case f == 0:
		return sign
	}
	bias := 1<<(expBits-1) - 1
	frac, exp := math.Frexp(f) // frac is from 1/2 on, the bits count from 1 on
	if exp-1+bias >= 1 {
		return sign | uint64(exp-1+bias)<<fracBits | uint64(math.Ldexp(2*frac-1, fracBits))
	}
	return sign | uint64(math.Ldexp(frac, exp+bias-1+fracBits))
}

// highestFirst returns the size lowest bytes of n.
func highestFirst(n uint64, size int) []byte {
	var b []byte
	for i := size - 1; i >= 0; i-- {
		b = append(b, byte(n>>(8*i)))
	}
	return b
}

func TestPut32Ordinary(t *testing.T) {
	cases := []struct {
		f    float32
		want string
	}{
		{0, "\x00\x00\x00\x00"},
		{float32(minusZero()), "\x80\x00\x00\x00"},
		{1, "\x3f\x80\x00\x00"},
		{-1, "\xbf\x80\x00\x00"},
		{-2.5, "\xc0\x20\x00\x00"},
		{0.1, "\x3d\xcc\xcc\xcd"},
		{least32, "\x00\x00\x00\x01"},
		{-least32, "\x80\x00\x00\x01"},
		{0x1p-126 - least32, "\x00\x7f\xff\xff"},
		{0x1p-126, "\x00\x80\x00\x00"},
		{most32, "\x7f\x7f\xff\xff"},
		{-most32, "\xff\x7f\xff\xff"},
		{float32(math.Inf(1)), "\x7f\x80\x00\x00"},
		{float32(math.Inf(-1)), "\xff\x80\x00\x00"},
		{float32(math.NaN()), "\x7f\xc0\x00\x00"},
	}
	for _, c := range cases {
		if got := Put32(c.f); string(got) != c.want {
			t.Errorf("Put32(%v) = %x, want %x", c.f, got, c.want)
		}
		if got, e := Get32([]byte(c.want)); !same(float64(got), float64(c.f)) || e != api.OK {
			t.Errorf("Get32(%x) = %v, %d, want %v", c.want, got, e, c.f)
		}
	}
}

func TestPut64Ordinary(t *testing.T) {
	cases := []struct {
		f    float64
		want string
	}{
		{0, "\x00\x00\x00\x00\x00\x00\x00\x00"},
		{minusZero(), "\x80\x00\x00\x00\x00\x00\x00\x00"},
		{1, "\x3f\xf0\x00\x00\x00\x00\x00\x00"},
		{-1, "\xbf\xf0\x00\x00\x00\x00\x00\x00"},
		{-2.5, "\xc0\x04\x00\x00\x00\x00\x00\x00"},
		{0.1, "\x3f\xb9\x99\x99\x99\x99\x99\x9a"},
		{least64, "\x00\x00\x00\x00\x00\x00\x00\x01"},
		{-least64, "\x80\x00\x00\x00\x00\x00\x00\x01"},
		{0x1p-1022 - least64, "\x00\x0f\xff\xff\xff\xff\xff\xff"},
		{0x1p-1022, "\x00\x10\x00\x00\x00\x00\x00\x00"},
		{most64, "\x7f\xef\xff\xff\xff\xff\xff\xff"},
		{-most64, "\xff\xef\xff\xff\xff\xff\xff\xff"},
		{math.Inf(1), "\x7f\xf0\x00\x00\x00\x00\x00\x00"},
		{math.Inf(-1), "\xff\xf0\x00\x00\x00\x00\x00\x00"},
		{math.NaN(), "\x7f\xf8\x00\x00\x00\x00\x00\x00"},
	}
	for _, c := range cases {
		if got := Put64(c.f); string(got) != c.want {
			t.Errorf("Put64(%v) = %x, want %x", c.f, got, c.want)
		}
		if got, e := Get64([]byte(c.want)); !same(got, c.f) || e != api.OK {
			t.Errorf("Get64(%x) = %v, %d, want %v", c.want, got, e, c.f)
		}
	}
}

// TestEveryNaNIsPutAlike: also those of the other sign, and those that signal.
func TestEveryNaNIsPutAlike(t *testing.T) {
	for _, n := range nans32 {
		if got := Put32(math.Float32frombits(n)); string(got) != "\x7f\xc0\x00\x00" {
			t.Errorf("Put32 of the NaN %08x = %x", n, got)
		}
	}
	for _, n := range nans64 {
		if got := Put64(math.Float64frombits(n)); string(got) != "\x7f\xf8\x00\x00\x00\x00\x00\x00" {
			t.Errorf("Put64 of the NaN %016x = %x", n, got)
		}
	}
}

// TestEveryNaNIsGot: each of them is a NaN, and none of them is told from another one afterwards.
func TestEveryNaNIsGot(t *testing.T) {
	for _, n := range nans32 {
		got, e := Get32(highestFirst(uint64(n), 4))
		if got == got || e != api.OK || math.Float32bits(got) != nans32[0] {
			t.Errorf("Get32 of the NaN %08x = %v (%08x), %d", n, got, math.Float32bits(got), e)
		}
	}
	for _, n := range nans64 {
		got, e := Get64(highestFirst(n, 8))
		if got == got || e != api.OK || math.Float64bits(got) != nans64[0] {
			t.Errorf("Get64 of the NaN %016x = %v (%016x), %d", n, got, math.Float64bits(got), e)
		}
	}
}

// TestPutAndGetOfAny: any value is put as arithmetic has it, and comes back from its bytes.
func TestPutAndGetOfAny(t *testing.T) {
	all := rising()
	for _, n := range mixed(20000) {
		all = append(all, math.Float64frombits(n))
	}
	for _, f := range all {
		b := Put64(f)
		if want := highestFirst(wantBits(f, 11, 52), 8); !bytes.Equal(b, want) {
			t.Errorf("Put64(%v) = %x, want %x", f, b, want)
		}
		if got, e := Get64(b); !same(got, f) || e != api.OK {
			t.Errorf("Get64(%x) = %v, %d, want %v", b, got, e, f)
		}
	}
	for n := uint64(0); n < 1<<32; n += 65519 { // values of every size, because no power of two divides the step
		f := math.Float32frombits(uint32(n))
		b := Put32(f)
		if want := highestFirst(wantBits(float64(f), 8, 23), 4); !bytes.Equal(b, want) {
			t.Errorf("Put32(%v) = %x, want %x", f, b, want)
		}
		if got, e := Get32(b); !same(float64(got), float64(f)) || e != api.OK {
			t.Errorf("Get32(%x) = %v, %d, want %v", b, got, e, f)
		}
	}
}

// TestGetOfWrongLengths: there is no value then, not even -0 or a part of one.
func TestGetOfWrongLengths(t *testing.T) {
	for n := range 70 {
		for _, x := range []byte{0, 1, 0x3f, 0x80, 0xff} {
			b := bytes.Repeat([]byte{x}, n)
			if got, e := Get32(b); n != 4 && (e != wantErrno(n, 4) || math.Float32bits(got) != 0) {
				t.Errorf("Get32 of %d bytes %x = %v, %d", n, x, got, e)
			}
			if got, e := Get64(b); n != 8 && (e != wantErrno(n, 8) || math.Float64bits(got) != 0) {
				t.Errorf("Get64 of %d bytes %x = %v, %d", n, x, got, e)
			}
		}
	}
	if got, e := Get32(nil); got != 0 || e != api.ErrShort {
		t.Errorf("Get32(nil) = %v, %d", got, e)
	}
	if got, e := Get64(nil); got != 0 || e != api.ErrShort {
		t.Errorf("Get64(nil) = %v, %d", got, e)
	}
	if _, e := Get64(make([]byte, 1<<20)); e != api.ErrForm {
		t.Errorf("Get64 of many bytes: %d", e)
	}
}

func wantErrno(n, size int) api.Errno {
	switch {
	case n < size:
		return api.ErrShort
	case n > size:
		return api.ErrForm
	}
	return api.OK
}

// TestSpareCapacityIsNotThere: bytes behind the end of b are not read, and nothing of b is changed.
func TestSpareCapacityIsNotThere(t *testing.T) {
	whole := bytes.Repeat([]byte{0x41}, 20)
	before := slices.Clone(whole)
	for n := range 20 {
		if _, e := Get32(whole[:n]); e != wantErrno(n, 4) {
			t.Errorf("Get32 of %d bytes with others behind them: %d", n, e)
		}
		if _, e := Get64(whole[:n]); e != wantErrno(n, 8) {
			t.Errorf("Get64 of %d bytes with others behind them: %d", n, e)
		}
	}
	if !bytes.Equal(whole, before) {
		t.Errorf("Get changed its argument: %x", whole)
	}
}

// TestResultsAreNewMemory: what is done to one result shows in no other one.
func TestResultsAreNewMemory(t *testing.T) {
	for _, f := range []float64{0, 1, minusZero(), math.NaN(), math.Inf(-1)} {
		a, b := Put64(f), Put64(f)
		want := slices.Clone(b)
		for i := range a[:cap(a)] {
			a[:cap(a)][i] ^= 0xff
		}
		if !bytes.Equal(b, want) || !bytes.Equal(Put64(f), want) {
			t.Errorf("Put64(%v) shares its memory", f)
		}
		c, d := Put32(float32(f)), Put32(float32(f))
		want = slices.Clone(d)
		for i := range c[:cap(c)] {
			c[:cap(c)][i] ^= 0xff
		}
		if !bytes.Equal(d, want) || !bytes.Equal(Put32(float32(f)), want) {
			t.Errorf("Put32(%v) shares its memory", f)
		}
	}
}

func TestOrderOrdinary(t *testing.T) {
	inf, nan := math.Inf(1), math.NaN()
	cases := []struct {
		a, b float64
		want int
	}{
		{1, 2, -1},
		{2, 1, 1},
		{2, 2, 0},
		{-1, -2, 1},
		{-2, -1, -1},
		{-2, -2, 0},
		{-1, 1, -1},
		{1, -1, 1},
		{minusZero(), 0, -1},
		{0, minusZero(), 1},
		{0, 0, 0},
		{minusZero(), minusZero(), 0},
		{0, least64, -1},
		{-least64, minusZero(), -1},
		{-least64, least64, -1},
		{most64, inf, -1},
		{-inf, -most64, -1},
		{inf, inf, 0},
		{-inf, -inf, 0},
		{-inf, inf, -1},
		{nan, inf, 1},
		{inf, nan, -1},
		{nan, -inf, 1},
		{-inf, nan, -1},
		{nan, 0, 1},
		{nan, nan, 0},
		{nan, -nan, 0},
	}
	for _, c := range cases {
		if got := Order(c.a, c.b); got != c.want {
			t.Errorf("Order(%v, %v) = %d, want %d", c.a, c.b, got, c.want)
		}
	}
}

// TestOrderOfEveryKind: of values in their order, each is below those behind it.
func TestOrderOfEveryKind(t *testing.T) {
	all := rising()
	for i, a := range all {
		for j, b := range all {
			want := 0
			if i < j {
				want = -1
			} else if i > j {
				want = 1
			}
			if got := Order(a, b); got != want {
				t.Errorf("Order(%v, %v) = %d, want %d", a, b, got, want)
			}
		}
	}
}

// TestOrderOfNaNs: every NaN is above all values, its sign and its bits don't count.
func TestOrderOfNaNs(t *testing.T) {
	for _, n := range nans64 {
		nan := math.Float64frombits(n)
		for _, f := range rising() {
			if got := Order(nan, f); got != 1 {
				t.Errorf("Order(NaN %016x, %v) = %d", n, f, got)
			}
			if got := Order(f, nan); got != -1 {
				t.Errorf("Order(%v, NaN %016x) = %d", f, n, got)
			}
		}
		for _, m := range nans64 {
			if got := Order(nan, math.Float64frombits(m)); got != 0 {
				t.Errorf("Order(NaN %016x, NaN %016x) = %d", n, m, got)
			}
		}
	}
}

// wantOrder says what the chapter asks, by comparing the values themselves.
func wantOrder(a, b float64) int {
	switch {
	case a != a || b != b:
		return one(a != a) - one(b != b)
	case a < b:
		return -1
	case a > b:
		return 1
	}
	return one(math.Signbit(b)) - one(math.Signbit(a)) // only zeros differ here
}

func one(is bool) int {
	if is {
		return 1
	}
	return 0
}

// TestOrderOfAny: of any two values, and of two that are next to each other.
func TestOrderOfAny(t *testing.T) {
	all := mixed(20000)
	for i, n := range all[1:] {
		a, b := math.Float64frombits(n), math.Float64frombits(all[i])
		if got, want := Order(a, b), wantOrder(a, b); got != want {
			t.Errorf("Order(%v, %v) = %d, want %d", a, b, got, want)
		}
		if up := math.Nextafter(a, math.Inf(1)); up > a && (Order(a, up) != -1 || Order(up, a) != 1 || Order(a, a) != 0) {
			t.Errorf("Order of %v and the next one is %d, %d", a, Order(a, up), Order(up, a))
		}
	}
}

func TestNarrowOrdinary(t *testing.T) {
	inf := math.Inf(1)
	cases := []struct {
		f, want float64
		is      bool
	}{
		{0, 0, true},
		{minusZero(), minusZero(), true},
		{1, 1, true},
		{-2.5, -2.5, true},
		{0.1, float64(float32(0.1)), false},
		{1 << 24, 1 << 24, true},
		{inf, inf, true},
		{-inf, -inf, true},
		{math.NaN(), math.NaN(), true},
		// Half way: to the one whose last bit is 0, down and up.
		{1<<24 + 1, 1 << 24, false},
		{1<<24 + 3, 1<<24 + 4, false},
		{-(1<<24 + 1), -(1 << 24), false},
		{-(1<<24 + 3), -(1<<24 + 4), false},
		{1 + 0x1p-24, 1, false},
		{1 + 0x1p-24 + 0x1p-52, 1 + 0x1p-23, false},
		{1 + 0x1p-24 - 0x1p-52, 1, false},
		{1 + 0x3p-24, 1 + 0x1p-22, false},
		{2 - 0x1p-24, 2, false}, // to the next power of two
		// The greatest one, and what is beyond.
		{most32, most32, true},
		{most32 + 0x1p102, most32, false}, // still nearer to the greatest one than to what would be the next
		{math.Nextafter(0x1p128-0x1p103, 0), most32, false},
		{0x1p128 - 0x1p103, inf, false},
		{0x1p128, inf, false},
		{1e39, inf, false},
		{most64, inf, false},
		{-most32, -most32, true},
		{-(most32 + 0x1p102), -most32, false},
		{-(0x1p128 - 0x1p103), -inf, false},
		{-1e39, -inf, false},
		{-most64, -inf, false},
		// The least ones, and what is below them.
		{least32, least32, true},
		{-least32, -least32, true},
		{least32 / 2, 0, false},
		{-least32 / 2, minusZero(), false},
		{math.Nextafter(least32/2, 1), least32, false},
		{1.5 * least32, 2 * least32, false},
		{2.5 * least32, 2 * least32, false},
		{least64, 0, false},
		{-least64, minusZero(), false},
		{0x1p-126, 0x1p-126, true},
		{0x1p-126 - least32, 0x1p-126 - least32, true},
		{0x1p-126 - least32/2, 0x1p-126, false},
	}
	for _, c := range cases {
		if got, is := Narrow(c.f); !same(float64(got), c.want) || is != c.is {
			t.Errorf("Narrow(%v) = %v, %v, want %v, %v", c.f, got, is, c.want, c.is)
		}
	}
}

func TestNarrowOfNaNs(t *testing.T) {
	for _, n := range nans64 {
		if got, is := Narrow(math.Float64frombits(n)); got == got || !is || math.Float32bits(got) != nans32[0] {
			t.Errorf("Narrow(NaN %016x) = %v (%08x), %v", n, got, math.Float32bits(got), is)
		}
	}
}

// wantNarrow says what the chapter asks, by numbers that have as many bits as they need.
func wantNarrow(f float64) (float64, bool) {
	if f != f {
		return f, true
	}
	n, exact := new(big.Float).SetFloat64(f).Float32() // rounds as the chapter asks
	return float64(n), exact == big.Exact
}

// TestNarrowOfAny: of any value, of those that are float32s, of those half way between two of them, and of the ones next to these.
func TestNarrowOfAny(t *testing.T) {
	all := rising()
	for _, n := range mixed(20000) {
		all = append(all, math.Float64frombits(n))
		all = append(all, math.Ldexp(float64(int64(n)), int(n%300)-220)) // of the sizes that a float32 has, and somewhat around
	}
	for n := uint64(0); n < 1<<32; n += 1048573 {
		f := math.Float32frombits(uint32(n))
		next := math.Nextafter32(f, float32(math.Inf(1)))
		half := float64(f) + (float64(next)-float64(f))/2
		all = append(all, float64(f), half, math.Nextafter(half, -1e300), math.Nextafter(half, 1e300))
	}
	for _, f := range all {
		want, is := wantNarrow(f)
		if got, ok := Narrow(f); !same(float64(got), want) || ok != is {
			t.Errorf("Narrow(%v) = %v, %v, want %v, %v", f, got, ok, want, is)
		}
	}
}

// TestNarrowIsNearest: none of the two neighbours of what it answers is nearer, and one that is as near has an odd last bit.
func TestNarrowIsNearest(t *testing.T) {
	for _, n := range mixed(20000) {
		f := math.Ldexp(float64(int64(n)>>(n%40)), int(n%230)-160)
		got, _ := Narrow(f)
		here := distance(f, got)
		for _, to := range []float64{math.Inf(-1), math.Inf(1)} {
			other := math.Nextafter32(got, float32(to))
			if c := here.Cmp(distance(f, other)); c > 0 || c == 0 && math.Float32bits(got)&1 == 1 {
				t.Errorf("Narrow(%v) = %v, but there is %v", f, got, other)
			}
		}
	}
}

func distance(f float64, n float32) *big.Rat {
	d := new(big.Rat).SetFloat64(f)
	d.Sub(d, new(big.Rat).SetFloat64(float64(n)))
	return d.Abs(d)
}

func TestMeanOrdinary(t *testing.T) {
	inf, nan := math.Inf(1), math.NaN()
	cases := []struct{ a, b, want float64 }{
		{1, 2, 1.5},
		{2, 1, 1.5},
		{-1, 1, 0},
		{-3, -4, -3.5},
		{7, 7, 7},
		{0.1, 0.2, 0x1.3333333333334p-3}, // the sum is rounded up
		{0, 0, 0},
		{minusZero(), minusZero(), minusZero()},
		{minusZero(), 0, 0},
		{5, -5, 0},
		// The sum is rounded, then the half: halves first would be others.
		{1, 0x1p-53, 0.5},
		{1 + 0x1p-52, 0x1p-53, 0.5 + 0x1p-52},
		{least64, least64, least64},
		{least64, 0, 0},
		{-least64, 0, minusZero()},
		{-least64, minusZero(), minusZero()},
		{2 * least64, least64, 2 * least64},
		{3 * least64, 2 * least64, 2 * least64},
		{3 * least64, -2 * least64, 0},
		{0x1p-1022, -least64, 0x1p-1023},
		// A sum that is too great.
		{most64, most64, most64},
		{-most64, -most64, -most64},
		{most64, math.Nextafter(most64, 0), math.Nextafter(most64, 0)}, // the halves' sum is half way: to the even one
		{0x1p1023, 0x1p1023, 0x1p1023},
		{0x1p1023, most64, 0x1.8p1023},                    // half way again
		{0x1p1023, math.Nextafter(0x1p1023, 0), 0x1p1023}, // too great by its rounding alone
		{most64, 0x1p970, 0x1p1023},
		{-most64, -0x1p970, -0x1p1023},
		// Just not too great, or not at all.
		{most64, math.Nextafter(0x1p970, 0), most64 / 2},
		{most64, 0, most64 / 2},
		{most64, least64, most64 / 2},
		{most64, -most64, 0},
		{0x1p1023, 0x1p1023 - 0x1p971, 0x1p1023 - 0x1p970},
		// Infinities stay, if there is no other one.
		{inf, 1, inf},
		{1, inf, inf},
		{inf, inf, inf},
		{inf, most64, inf},
		{inf, -most64, inf},
		{-inf, most64, -inf},
		{-inf, -inf, -inf},
		{most64, -inf, -inf},
		{inf, -inf, nan},
		{-inf, inf, nan},
		{nan, 1, nan},
		{1, nan, nan},
		{nan, inf, nan},
		{-inf, nan, nan},
		{nan, most64, nan},
		{nan, nan, nan},
	}
	for _, c := range cases {
		if got := Mean(c.a, c.b); !same(got, c.want) {
			t.Errorf("Mean(%v, %v) = %v, want %v", c.a, c.b, got, c.want)
		}
	}
}

// TestMeanOfNaNs: whichever NaN it is, and wherever it comes from, one and the same comes out.
func TestMeanOfNaNs(t *testing.T) {
	others := append(rising(), math.NaN(), -math.NaN())
	for _, n := range nans64 {
		nan := math.Float64frombits(n)
		for _, f := range others {
			for _, got := range []float64{Mean(nan, f), Mean(f, nan), Mean(nan, nan)} {
				if math.Float64bits(got) != nans64[0] {
					t.Errorf("Mean of the NaN %016x and %v = %v (%016x)", n, f, got, math.Float64bits(got))
				}
			}
		}
	}
	if got := Mean(math.Inf(1), math.Inf(-1)); math.Float64bits(got) != nans64[0] {
		t.Errorf("Mean of both infinities = %016x", math.Float64bits(got))
	}
}

// exactly returns a number with more bits than any sum of two values needs.
func exactly(f float64) *big.Float {
	return new(big.Float).SetPrec(2200).SetFloat64(f)
}

// half returns f / 2, rounded.
func half(f float64) float64 {
	if math.IsInf(f, 0) {
		return f
	}
	h, _ := exactly(f).Quo(exactly(f), exactly(2)).Float64()
	return h
}

// plus returns the sum, rounded.
func plus(a, b float64) float64 {
	if math.IsInf(a, 0) {
		return a
	}
	if math.IsInf(b, 0) {
		return b
	}
	s, _ := exactly(0).Add(exactly(a), exactly(b)).Float64()
	return s
}

// wantMean says what the chapter asks, by numbers that have as many bits as they need.
func wantMean(a, b float64) float64 {
	if a != a || b != b || math.IsInf(a, 0) && b == -a {
		return math.NaN()
	}
	sum := plus(a, b)
	if math.IsInf(sum, 0) && !math.IsInf(a, 0) && !math.IsInf(b, 0) {
		return plus(half(a), half(b))
	}
	return half(sum)
}

// TestMeanOfAny: of all kinds, and of any two values.
func TestMeanOfAny(t *testing.T) {
	for _, a := range rising() {
		for _, b := range rising() {
			if got, want := Mean(a, b), wantMean(a, b); !same(got, want) {
				t.Errorf("Mean(%v, %v) = %v, want %v", a, b, got, want)
			}
		}
	}
	all := mixed(6000)
	for i, n := range all[1:] {
		a := math.Float64frombits(n)
		other := math.Float64frombits(all[i])
		near := math.Float64frombits(n&0xffff000000000000 | all[i]&0x0000ffffffffffff) // of the same size
		tiny := math.Float64frombits(all[i] & 0x800fffffffffffff)
		huge := math.Float64frombits(all[i]&0x800fffffffffffff | 0x7fe0000000000000)
		for _, p := range [][2]float64{{a, other}, {a, near}, {a, tiny}, {a, huge}, {tiny, tiny}, {tiny, -least64}, {huge, huge}, {huge, math.Nextafter(huge, 0)}, {huge, -huge / 2}} {
			if got, want := Mean(p[0], p[1]), wantMean(p[0], p[1]); !same(got, want) {
				t.Errorf("Mean(%v, %v) = %v, want %v", p[0], p[1], got, want)
			}
		}
	}
}

// TestTwiceTheSame: nothing is kept between calls.
func TestTwiceTheSame(t *testing.T) {
	for range 2 {
		if b := Put64(1); string(b) != "\x3f\xf0\x00\x00\x00\x00\x00\x00" {
			t.Errorf("Put64 = %x", b)
		}
		if _, e := Get32([]byte{1}); e != api.ErrShort {
			t.Errorf("Get32: %d", e)
		}
		if f, e := Get32([]byte{0x3f, 0x80, 0, 0}); f != 1 || e != api.OK {
			t.Errorf("Get32 = %v, %d", f, e)
		}
		if n := Order(math.NaN(), 1); n != 1 {
			t.Errorf("Order = %d", n)
		}
		if m := Mean(most64, most64); m != most64 {
			t.Errorf("Mean = %v", m)
		}
		if m := Mean(1, 2); m != 1.5 {
			t.Errorf("Mean = %v", m)
		}
	}
}

// FuzzAnyArguments holds every call against the chapter's words, for whatever is given.
func FuzzAnyArguments(f *testing.F) {
	f.Add(uint64(0), uint64(1)<<63, []byte(nil))
	f.Add(math.Float64bits(0.1), math.Float64bits(1e39), []byte{0x3f, 0x80, 0, 0})
	f.Add(math.Float64bits(most64), math.Float64bits(most64), []byte{0xff, 0xff, 0xff, 0xff, 0xff, 0xff, 0xff, 0xff})
	f.Add(uint64(0x7ff0000000000001), uint64(0xfff0000000000000), []byte{1, 2, 3, 4, 5, 6, 7, 8, 9})
	f.Add(math.Float64bits(0x1p128-0x1p103), uint64(1), []byte{0x7f, 0x80, 0})
	f.Fuzz(func(t *testing.T, n, m uint64, bs []byte) {
		a, b := math.Float64frombits(n), math.Float64frombits(m)
		if got, want := Put64(a), highestFirst(wantBits(a, 11, 52), 8); !bytes.Equal(got, want) {
			t.Errorf("Put64(%v) = %x, want %x", a, got, want)
		}
		c := math.Float32frombits(uint32(n))
		if got, want := Put32(c), highestFirst(wantBits(float64(c), 8, 23), 4); !bytes.Equal(got, want) {
			t.Errorf("Put32(%v) = %x, want %x", c, got, want)
		}
		if got, e := Get32(bs); e != wantErrno(len(bs), 4) || e == api.OK && got == got && !bytes.Equal(Put32(got), bs) {
			t.Errorf("Get32(%x) = %v, %d", bs, got, e)
		}
		if got, e := Get64(bs); e != wantErrno(len(bs), 8) || e == api.OK && got == got && !bytes.Equal(Put64(got), bs) {
			t.Errorf("Get64(%x) = %v, %d", bs, got, e)
		}
		if got, want := Order(a, b), wantOrder(a, b); got != want {
			t.Errorf("Order(%v, %v) = %d, want %d", a, b, got, want)
		}
		want, is := wantNarrow(a)
		if got, ok := Narrow(a); !same(float64(got), want) || ok != is {
			t.Errorf("Narrow(%v) = %v, %v, want %v, %v", a, got, ok, want, is)
		}
		if got, want := Mean(a, b), wantMean(a, b); !same(got, want) {
			t.Errorf("Mean(%v, %v) = %v, want %v", a, b, got, want)
		}
	})
}
