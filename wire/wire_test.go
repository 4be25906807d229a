package wire

import (
	"bytes"
	"math"
	"slices"
	"testing"

	"trunkline/api"
)

// extremes: numbers that are no sensible size or place, and those whose sums and differences wrap round.
var extremes = []int{math.MinInt, math.MinInt + 1, math.MinInt32, -1 << 60, -9, -8, -4, -1, 1 << 31, 1 << 60, math.MaxInt - 8, math.MaxInt - 1, math.MaxInt}

func TestPutOrdinary(t *testing.T) {
	cases := []struct {
		b    []byte
		n    uint64
		size int
		want []byte
	}{
		{nil, 258, 3, []byte{0, 1, 2}},
		{[]byte{}, 7, 1, []byte{7}},
		{[]byte{9}, 258, 3, []byte{9, 0, 1, 2}},
		{[]byte{9, 8}, 0x0102030405060708, 8, []byte{9, 8, 1, 2, 3, 4, 5, 6, 7, 8}},
		{nil, 0, 2, []byte{0, 0}},
		{nil, math.MaxUint64, 8, bytes.Repeat([]byte{255}, 8)},
		{nil, 1 << 63, 8, []byte{128, 0, 0, 0, 0, 0, 0, 0}},
		{nil, 0x1234, 1, []byte{0x34}},
		{nil, 0x0102030405060708, 7, []byte{2, 3, 4, 5, 6, 7, 8}},
	}
	for _, c := range cases {
		if got := Put(c.b, c.n, c.size); !bytes.Equal(got, c.want) {
			t.Errorf("Put(%v, %d, %d) = %v, want %v", c.b, c.n, c.size, got, c.want)
		}
	}
}

func TestPutOfEverySize(t *testing.T) {
	all := []byte{0xf1, 0xe2, 0xd3, 0xc4, 0xb5, 0xa6, 0x97, 0x88}
	for size := 1; size <= 8; size++ {
		if got := Put(nil, 0xf1e2d3c4b5a69788, size); !bytes.Equal(got, all[8-size:]) {
			t.Errorf("Put of size %d = %x, want %x", size, got, all[8-size:])
		}
	}
}

func TestPutOfNoSize(t *testing.T) {
	for _, b := range [][]byte{nil, {}, {5}, {1, 2, 3, 4, 5}} {
		for _, size := range append([]int{0, 9, 10, 16, 64}, extremes...) {
			if got := Put(b, math.MaxUint64, size); !bytes.Equal(got, b) {
				t.Errorf("Put(%v, .., %d) = %v, want b alone", b, size, got)
			}
		}
	}
}

func TestGetOrdinary(t *testing.T) {
	b := []byte{9, 0, 1, 2, 0xff, 0xfe, 0xfd, 0xfc, 0xfb}
	cases := []struct {
		at, size int
		want     uint64
	}{
		{1, 3, 258},
		{0, 1, 9},
		{8, 1, 0xfb},
		{0, 8, 0x09000102fffefdfc},
		{1, 8, 0x000102fffefdfcfb},
		{4, 4, 0xfffefdfc},
		{2, 5, 0x0102fffefd},
	}
	for _, c := range cases {
		if got, e := Get(b, c.at, c.size); got != c.want || e != api.OK {
			t.Errorf("Get(b, %d, %d) = %x, %d, want %x", c.at, c.size, got, e, c.want)
		}
	}
	if got, e := Get(bytes.Repeat([]byte{255}, 8), 0, 8); got != math.MaxUint64 || e != api.OK {
		t.Errorf("Get of the greatest number = %x, %d", got, e)
	}
}

func TestGetFaults(t *testing.T) {
	b := []byte{9, 0, 1, 2}
	cases := []struct {
		b        []byte
		at, size int
		want     api.Errno
	}{
		{b, 2, 3, api.ErrShort},
		{b, 3, 2, api.ErrShort},
		{b, 4, 1, api.ErrShort},
		{b, 5, 1, api.ErrShort},
		{b, 0, 5, api.ErrShort},
		{b, 0, 8, api.ErrShort},
		{nil, 0, 1, api.ErrShort},
		{[]byte{}, 0, 8, api.ErrShort},
		{b, math.MaxInt, 1, api.ErrShort},
		{b, math.MaxInt - 3, 8, api.ErrShort},
		{b, 1 << 31, 4, api.ErrShort},
		{b, 0, 0, api.ErrArg},
		{b, 0, 9, api.ErrArg},
		{b, -1, 2, api.ErrArg},
		{b, math.MinInt, 8, api.ErrArg},
		// A wrong argument counts before bytes that are missing.
		{b, 9, 9, api.ErrArg},
		{b, 9, 0, api.ErrArg},
		{nil, -1, 1, api.ErrArg},
		{nil, 0, 0, api.ErrArg},
	}
	for _, c := range cases {
		if n, e := Get(c.b, c.at, c.size); n != 0 || e != c.want {
			t.Errorf("Get(%v, %d, %d) = %d, %d, want 0, %d", c.b, c.at, c.size, n, e, c.want)
		}
	}
	for _, x := range extremes {
		if n, e := Get(b, 0, x); n != 0 || e != api.ErrArg {
			t.Errorf("Get of size %d = %d, %d", x, n, e)
		}
	}
}

// TestGetOfEveryPlace holds Get against the bytes one by one, at all places around the ends of b.
func TestGetOfEveryPlace(t *testing.T) {
	b := []byte{1, 0x80, 3, 0xff, 5, 6, 7, 8, 9, 10, 11}
	for at := range len(b) + 3 {
		for size := 1; size <= 8; size++ {
			n, e := Get(b, at, size)
			if at+size > len(b) {
				if n != 0 || e != api.ErrShort {
					t.Errorf("Get(b, %d, %d) = %d, %d, want ErrShort", at, size, n, e)
				}
				continue
			}
			var want uint64
			for _, x := range b[at : at+size] {
				want = want*256 + uint64(x)
			}
			if n != want || e != api.OK {
				t.Errorf("Get(b, %d, %d) = %x, %d, want %x", at, size, n, e, want)
			}
		}
	}
}

func TestGetReturnsWhatWasPut(t *testing.T) {
	for _, n := range []uint64{0, 1, 255, 256, 65535, 1 << 31, 1<<32 - 1, 1 << 40, 1<<63 - 1, 1 << 63, math.MaxUint64} {
		for size := 1; size <= 8; size++ {
			want := n
			if size < 8 {
				want = n % (1 << (8 * size))
			}
			got, e := Get(Put([]byte{7, 7}, n, size), 2, size)
			if got != want || e != api.OK {
				t.Errorf("Get of Put of %x in %d bytes = %x, %d", n, size, got, e)
			}
		}
	}
}

func TestPad(t *testing.T) {
	for n, want := range []int{0, 3, 2, 1, 0, 3, 2, 1, 0, 3} {
		if got := Pad(n); got != want {
			t.Errorf("Pad(%d) = %d, want %d", n, got, want)
		}
	}
	for n, want := range map[int]int{math.MaxInt: 1, math.MaxInt - 1: 2, math.MaxInt - 2: 3, math.MaxInt - 3: 0, 1<<31 - 1: 1, 1 << 31: 0} {
		if got := Pad(n); got != want {
			t.Errorf("Pad(%d) = %d, want %d", n, got, want)
		}
	}
	for _, n := range []int{-1, -2, -3, -4, -5, -1 << 60, math.MinInt + 1, math.MinInt} {
		if got := Pad(n); got != 0 {
			t.Errorf("Pad(%d) = %d, want 0", n, got)
		}
	}
}

func TestPadded(t *testing.T) {
	cases := []struct{ b, want []byte }{
		{nil, nil},
		{[]byte{}, nil},
		{[]byte{1}, []byte{1, 0, 0, 0}},
		{[]byte{1, 2}, []byte{1, 2, 0, 0}},
		{[]byte{1, 2, 3}, []byte{1, 2, 3, 0}},
		{[]byte{1, 2, 3, 4}, []byte{1, 2, 3, 4}},
		{[]byte{1, 2, 3, 4, 5}, []byte{1, 2, 3, 4, 5, 0, 0, 0}},
	}
	for _, c := range cases {
		if got := Padded(c.b); !bytes.Equal(got, c.want) {
			t.Errorf("Padded(%v) = %v, want %v", c.b, got, c.want)
		}
	}
}

// TestPaddedInUsedMemory: what stands behind the end of b is neither shown nor overwritten.
func TestPaddedInUsedMemory(t *testing.T) {
	whole := []byte{1, 2, 3, 4, 5, 6, 7, 8}
	if got := Padded(whole[:5]); !bytes.Equal(got, []byte{1, 2, 3, 4, 5, 0, 0, 0}) {
		t.Errorf("Padded = %v", got)
	}
	if !bytes.Equal(whole, []byte{1, 2, 3, 4, 5, 6, 7, 8}) {
		t.Errorf("Padded changed the memory behind its argument: %v", whole)
	}
}

func TestPartOrdinary(t *testing.T) {
	b := []byte{9, 0, 1, 2}
	cases := []struct {
		b     []byte
		at, n int
		want  []byte
	}{
		{b, 1, 2, []byte{0, 1}},
		{b, 0, 4, b},
		{b, 3, 1, []byte{2}},
		{b, 0, 0, nil},
		{b, 2, 0, nil},
		{b, 4, 0, nil},
		{nil, 0, 0, nil},
	}
	for _, c := range cases {
		if got, e := Part(c.b, c.at, c.n); !bytes.Equal(got, c.want) || e != api.OK {
			t.Errorf("Part(%v, %d, %d) = %v, %d, want %v", c.b, c.at, c.n, got, e, c.want)
		}
	}
}

func TestPartFaults(t *testing.T) {
	b := []byte{9, 0, 1, 2}
	cases := []struct {
		b     []byte
		at, n int
		want  api.Errno
	}{
		{b, 0, 5, api.ErrShort},
		{b, 3, 2, api.ErrShort},
		{b, 4, 1, api.ErrShort},
		{b, 9, 1, api.ErrShort},
		{nil, 0, 1, api.ErrShort},
		{b, 0, math.MaxInt, api.ErrShort},
		{b, 1, math.MaxInt, api.ErrShort},
		{b, math.MaxInt, 1, api.ErrShort},
		{b, math.MaxInt, math.MaxInt, api.ErrShort},
		{b, -1, 1, api.ErrArg},
		{b, 1, -1, api.ErrArg},
		{b, -1, -1, api.ErrArg},
		{b, math.MinInt, math.MinInt, api.ErrArg},
		// A wrong argument counts before bytes that are missing.
		{b, 9, -1, api.ErrArg},
		{b, math.MaxInt, math.MinInt, api.ErrArg},
		{b, -1, 9, api.ErrArg},
		{b, math.MinInt, math.MaxInt, api.ErrArg},
		{nil, -1, 0, api.ErrArg},
		{nil, 0, -1, api.ErrArg},
	}
	for _, c := range cases {
		if got, e := Part(c.b, c.at, c.n); len(got) != 0 || e != c.want {
			t.Errorf("Part(%v, %d, %d) = %v, %d, want %d", c.b, c.at, c.n, got, e, c.want)
		}
	}
}

// TestPartCountsLength: what stands between the end of a slice and its capacity is no part of it.
func TestPartCountsLength(t *testing.T) {
	b := []byte{1, 2, 3, 4, 5, 6, 7, 8}[:4]
	if got, e := Part(b, 2, 4); len(got) != 0 || e != api.ErrShort {
		t.Errorf("Part over the end = %v, %d", got, e)
	}
	if n, e := Get(b, 2, 4); n != 0 || e != api.ErrShort {
		t.Errorf("Get over the end = %d, %d", n, e)
	}
}

// TestArgumentsAreLeftAlone: no call changes its argument, not even its spare capacity, and no answer shares memory with it.
func TestArgumentsAreLeftAlone(t *testing.T) {
	calls := map[string]func(b []byte) []byte{
		"Put":            func(b []byte) []byte { return Put(b, math.MaxUint64, 3) },
		"Put of no size": func(b []byte) []byte { return Put(b, math.MaxUint64, 9) },
		"Padded":         Padded,
		"Part":           func(b []byte) []byte { r, _ := Part(b, 1, 3); return r },
		"Part of all":    func(b []byte) []byte { r, _ := Part(b, 0, len(b)); return r },
	}
	for name, call := range calls {
		for size := 4; size <= 5; size++ { // 4 bytes need no padding, 5 do
			whole := []byte{1, 2, 3, 4, 5, 6, 7, 8, 9, 10, 11, 12, 13, 14, 15, 16}
			before := slices.Clone(whole)
			r := call(whole[:size])
			if !bytes.Equal(whole, before) {
				t.Errorf("%s of %d bytes changed its argument: %v", name, size, whole)
			}
			said := slices.Clone(r)
			for i := range whole {
				whole[i] ^= 0xff
			}
			if !bytes.Equal(r, said) {
				t.Errorf("%s of %d bytes shares memory with its argument", name, size)
			}
			changed := slices.Clone(whole)
			for i := range r[:cap(r)] {
				r[:cap(r)][i] = 0xaa
			}
			if !bytes.Equal(whole, changed) {
				t.Errorf("%s of %d bytes: its answer reaches into its argument", name, size)
			}
		}
	}
}

// FuzzAnyArguments: whatever is given, a call ends with what P1 allows.
func FuzzAnyArguments(f *testing.F) {
	f.Add([]byte{9, 0, 1, 2}, 1, 3, uint64(258))
	f.Add([]byte(nil), 0, 0, uint64(0))
	for _, x := range extremes {
		f.Add([]byte{1, 2, 3}, x, 2, uint64(1)<<63)
		f.Add([]byte{1, 2, 3}, 1, x, uint64(7))
		f.Add([]byte{1, 2, 3}, x, x, uint64(math.MaxUint64))
	}
	f.Fuzz(func(t *testing.T, b []byte, at, n int, x uint64) {
		put := Put(b, x, n)
		if !bytes.HasPrefix(put, b) || len(put) != len(b) && len(put) != len(b)+n {
			t.Errorf("Put(%v, %d, %d) = %v", b, x, n, put)
		}
		if p := Pad(n); p < 0 || p > 3 || n >= 0 && (n%4+p)%4 != 0 {
			t.Errorf("Pad(%d) = %d", n, p)
		}
		if p := Padded(b); len(p)%4 != 0 || len(p) > len(b)+3 || !bytes.HasPrefix(p, b) {
			t.Errorf("Padded(%v) = %v", b, p)
		}
		if got, e := Part(b, at, n); e == api.OK && !bytes.Equal(got, b[at:at+n]) || e != api.OK && len(got) != 0 {
			t.Errorf("Part(%v, %d, %d) = %v, %d", b, at, n, got, e)
		}
		if got, e := Get(b, at, n); e != api.OK && got != 0 {
			t.Errorf("Get(%v, %d, %d) = %d, %d", b, at, n, got, e)
		}
	})
}
