package cookie

import (
	"bytes"
	"encoding/binary"
	"encoding/hex"
	"hash/crc32"
	"math"
	"math/big"
	"slices"
	"strings"
	"testing"

	"trunkline/api"
)

// keys: those with bits of all kinds, and those whose two ends differ.
var keys = []uint64{0, 1, 9, 10, 1 << 31, 1 << 32, 1 << 63, 0x0102030405060708, 0xf1e2d3c4b5a69788, math.MaxUint64}

// extremes: numbers whose sums and differences wrap round.
var extremes = []int{math.MinInt, math.MinInt + 1, math.MinInt / 2, -1 << 60, -1 << 32, -11, -10, -9, -1, 0, 1, 4, 5, 9, 10, 11, 1 << 32, api.MaxTime - 1, api.MaxTime, api.MaxTime + 1, 1 << 60, math.MaxInt / 2, math.MaxInt - 5, math.MaxInt - 1, math.MaxInt}

// unhex returns the bytes that a text of hexadecimal digits and blanks says.
func unhex(t testing.TB, s string) []byte {
	t.Helper()
	b, err := hex.DecodeString(strings.ReplaceAll(s, " ", ""))
	if err != nil {
		t.Fatal(err)
	}
	return b
}

// example is what the chapter's cookie may say.
func example() api.Crumb {
	return api.Crumb{Time: 5, Mine: 1, Peer: 2, MyTSN: 3, PeerTSN: 4, Window: 6, TieMine: 7, TiePeer: 8}
}

// mixed is a Crumb no two bytes of which are the same.
func mixed() api.Crumb {
	return api.Crumb{Time: 0x98765432fe, Mine: 0x11121314, Peer: 0x21222324, MyTSN: 0x31323334, PeerTSN: 0x41424344, Window: 0x51525355, TieMine: 0x61626364, TiePeer: 0x71727374}
}

// crumbs: each of them may be sealed.
func crumbs() []api.Crumb {
	list := []api.Crumb{
		example(),
		mixed(),
		{Mine: 1, Peer: 1},
		{Time: api.MaxTime, Mine: 1, Peer: math.MaxUint32},
		{Time: api.MaxTime - 1, Mine: math.MaxUint32, Peer: 1},
		{Time: api.MaxTime, Mine: math.MaxUint32, Peer: math.MaxUint32, MyTSN: math.MaxUint32, PeerTSN: math.MaxUint32, Window: math.MaxUint32, TieMine: math.MaxUint32, TiePeer: math.MaxUint32},
		{Time: 1 << 32, Mine: 1 << 31, Peer: 1 << 31},
	}
	for bit := range 41 {
		list = append(list, api.Crumb{Time: 1 << bit, Mine: 1, Peer: 1})
	}
	for bit := range 32 {
		n := uint32(1) << bit
		list = append(list,
			api.Crumb{Mine: n, Peer: 1},
			api.Crumb{Mine: 1, Peer: n},
			api.Crumb{Mine: 1, Peer: 1, MyTSN: n},
			api.Crumb{Mine: 1, Peer: 1, PeerTSN: n},
			api.Crumb{Mine: 1, Peer: 1, Window: n},
			api.Crumb{Mine: 1, Peer: 1, TieMine: n},
			api.Crumb{Mine: 1, Peer: 1, TiePeer: n})
	}
	return list
}

// plainSum is the checksum of the 36 bytes of content, by the library.
func plainSum(key uint64, content []byte) uint32 {
	k := binary.BigEndian.AppendUint64(nil, key)
	return crc32.Checksum(slices.Concat(k, content, k), crc32.MakeTable(crc32.Castagnoli))
}

// sealed returns 36 bytes with their checksum behind them, whatever they say.
func sealed(key uint64, content []byte) []byte {
	return binary.BigEndian.AppendUint32(slices.Clone(content), plainSum(key, content))
}

// laid returns the bytes of a cookie, whether or not there may be one.
func laid(key uint64, time uint64, c api.Crumb) []byte {
	b := binary.BigEndian.AppendUint64(nil, time)
	b = binary.BigEndian.AppendUint32(b, c.Mine)
	b = binary.BigEndian.AppendUint32(b, c.Peer)
	b = binary.BigEndian.AppendUint32(b, c.MyTSN)
	b = binary.BigEndian.AppendUint32(b, c.PeerTSN)
	b = binary.BigEndian.AppendUint32(b, c.Window)
	b = binary.BigEndian.AppendUint32(b, c.TieMine)
	b = binary.BigEndian.AppendUint32(b, c.TiePeer)
	return sealed(key, b)
}

// plainSeal does what the chapter asks of Seal.
func plainSeal(key uint64, c api.Crumb) ([]byte, api.Errno) {
	if c.Time < 0 || c.Time > 1<<40 || c.Mine == 0 || c.Peer == 0 {
		return nil, api.ErrArg
	}
	return laid(key, uint64(c.Time), c), api.OK
}

// plainOpen does what the chapter asks of Open, by the places of the bytes.
func plainOpen(key uint64, b []byte) (api.Crumb, api.Errno) {
	if len(b) < 40 {
		return api.Crumb{}, api.ErrShort
	}
	if len(b) > 40 {
		return api.Crumb{}, api.ErrForm
	}
	if binary.BigEndian.Uint32(b[36:]) != plainSum(key, b[:36]) {
		return api.Crumb{}, api.ErrSum
	}
	time := binary.BigEndian.Uint64(b)
	var n [7]uint32
	for i := range n {
		n[i] = binary.BigEndian.Uint32(b[8+4*i:])
	}
	if time > 1<<40 || n[0] == 0 || n[1] == 0 {
		return api.Crumb{}, api.ErrForm
	}
	return api.Crumb{Time: int(time), Mine: n[0], Peer: n[1], MyTSN: n[2], PeerTSN: n[3], Window: n[4], TieMine: n[5], TiePeer: n[6]}, api.OK
}

// plainFresh does what the chapter asks of Fresh, with numbers that know no end.
func plainFresh(c api.Crumb, now, life int) bool {
	from, at := big.NewInt(int64(c.Time)), big.NewInt(int64(now))
	to := new(big.Int).Add(from, big.NewInt(int64(life)))
	return from.Cmp(at) <= 0 && at.Cmp(to) <= 0
}

// seals holds Seal against the chapter's words.
func seals(t *testing.T, key uint64, c api.Crumb) {
	t.Helper()
	want, wrong := plainSeal(key, c)
	if got, e := Seal(key, c); !bytes.Equal(got, want) || e != wrong {
		t.Fatalf("Seal(%x, %v) = %x, %d, want %x, %d", key, c, got, e, want, wrong)
	}
}

// opens holds Open against the chapter's words; what it accepts is what Seal returns, byte by byte.
func opens(t *testing.T, key uint64, b []byte) {
	t.Helper()
	want, wrong := plainOpen(key, b)
	got, e := Open(key, b)
	if got != want || e != wrong {
		t.Fatalf("Open(%x, %x) = %v, %d, want %v, %d", key, b, got, e, want, wrong)
	}
	if e != api.OK {
		return
	}
	if again, e := Seal(key, got); !bytes.Equal(again, b) || e != api.OK {
		t.Fatalf("Seal(%x, %v) = %x, %d, want %x", key, got, again, e, b)
	}
}

// refused tells that Open answers that error, and nothing beside it.
func refused(t *testing.T, key uint64, b []byte, want api.Errno) {
	t.Helper()
	if c, e := Open(key, b); c != (api.Crumb{}) || e != want {
		t.Errorf("Open(%x, %x) = %v, %d, want the error %d", key, b, c, e, want)
	}
}

func TestExample(t *testing.T) {
	c := example()
	b, e := Seal(9, c)
	if len(b) != 40 || e != api.OK {
		t.Fatalf("Seal: %d bytes, %d", len(b), e)
	}
	for now, want := range map[int]bool{4: false, 5: true, 6: true, 14: true, 15: true, 16: false} {
		if got := Fresh(c, now, 10); got != want {
			t.Errorf("Fresh at %d: %v", now, got)
		}
	}
	refused(t, 10, b, api.ErrSum)
}

// TestBytes: cookies as they stand, worked out apart from this program.
func TestBytes(t *testing.T) {
	const five = "0000000000000005 00000001 00000002 00000003 00000004 00000006 00000007 00000008"
	far := api.Crumb{Time: api.MaxTime, Mine: 0x11121314, Peer: 0x21222324, MyTSN: 0x31323334, PeerTSN: 0x41424344, Window: 0x51525354, TieMine: 0x61626364, TiePeer: 0x71727374}
	cases := []struct {
		key  uint64
		c    api.Crumb
		want string
	}{
		{9, example(), five + "12d8630d"},
		{0, example(), five + "7e4f22eb"},
		{math.MaxUint64, example(), five + "f9ea6bd5"},
		{0x0102030405060708, example(), five + "216ee0ba"},
		{0x0102030405060708, far, "0000010000000000 11121314 21222324 31323334 41424344 51525354 61626364 71727374 687ffeef"},
	}
	for _, c := range cases {
		want := unhex(t, c.want)
		if got, e := Seal(c.key, c.c); !bytes.Equal(got, want) || e != api.OK {
			t.Errorf("Seal(%x, %v) = %x, %d, want %x", c.key, c.c, got, e, want)
		}
		if got, e := Open(c.key, want); got != c.c || e != api.OK {
			t.Errorf("Open(%x, %x) = %v, %d, want %v", c.key, want, got, e, c.c)
		}
	}
}

func TestOpenReturnsWhatWasSealed(t *testing.T) {
	for _, key := range keys {
		for _, c := range crumbs() {
			seals(t, key, c)
			b, e := Seal(key, c)
			if got, f := Open(key, b); got != c || e != api.OK || f != api.OK {
				t.Fatalf("Open of Seal(%x, %v): %d, %v, %d", key, c, e, got, f)
			}
			opens(t, key, b)
		}
	}
}

// TestEveryPlace: each number of a Crumb stands in bytes of its own, and nowhere else.
func TestEveryPlace(t *testing.T) {
	places := []struct {
		from, to int
		change   func(c *api.Crumb)
	}{
		{0, 8, func(c *api.Crumb) { c.Time ^= 0x7fffffffff }},
		{8, 12, func(c *api.Crumb) { c.Mine ^= math.MaxUint32 }},
		{12, 16, func(c *api.Crumb) { c.Peer ^= math.MaxUint32 }},
		{16, 20, func(c *api.Crumb) { c.MyTSN ^= math.MaxUint32 }},
		{20, 24, func(c *api.Crumb) { c.PeerTSN ^= math.MaxUint32 }},
		{24, 28, func(c *api.Crumb) { c.Window ^= math.MaxUint32 }},
		{28, 32, func(c *api.Crumb) { c.TieMine ^= math.MaxUint32 }},
		{32, 36, func(c *api.Crumb) { c.TiePeer ^= math.MaxUint32 }},
	}
	before, _ := Seal(3, example())
	for _, p := range places {
		c := example()
		p.change(&c)
		after, e := Seal(3, c)
		if e != api.OK {
			t.Fatalf("Seal(3, %v): %d", c, e)
		}
		for i := range 36 {
			inside := p.from <= i && i < p.to
			if !inside && after[i] != before[i] || inside && p.to-p.from == 4 && after[i] != before[i]^255 {
				t.Errorf("the number at %d changes, and the byte %d is %x, and was %x", p.from, i, after[i], before[i])
			}
		}
		if bytes.Equal(after[p.from:p.to], before[p.from:p.to]) || bytes.Equal(after[36:], before[36:]) {
			t.Errorf("the number at %d changes, and its bytes or the checksum don't", p.from)
		}
	}
}

func TestSealFaults(t *testing.T) {
	cases := []struct {
		time       int
		mine, peer uint32
		want       api.Errno
	}{
		{0, 1, 1, api.OK},
		{api.MaxTime, 1, 1, api.OK},
		{api.MaxTime + 1, 1, 1, api.ErrArg},
		{api.MaxTime + 1<<32, 1, 1, api.ErrArg},
		{1 << 60, 1, 1, api.ErrArg},
		{math.MaxInt, 1, 1, api.ErrArg},
		{-1, 1, 1, api.ErrArg},
		{-api.MaxTime, 1, 1, api.ErrArg},
		{-1 << 60, 1, 1, api.ErrArg},
		{math.MinInt, 1, 1, api.ErrArg},
		{math.MinInt + 5, 1, 1, api.ErrArg},
		{5, 0, 1, api.ErrArg},
		{5, 1, 0, api.ErrArg},
		{5, 0, 0, api.ErrArg},
		{-1, 0, 0, api.ErrArg},
		{5, math.MaxUint32, math.MaxUint32, api.OK},
	}
	for _, key := range keys {
		for _, c := range cases {
			crumb := mixed()
			crumb.Time, crumb.Mine, crumb.Peer = c.time, c.mine, c.peer
			b, e := Seal(key, crumb)
			if e != c.want || e == api.OK && len(b) != 40 || e != api.OK && len(b) != 0 {
				t.Errorf("Seal(%x, %v) = %x, %d, want %d", key, crumb, b, e, c.want)
			}
			seals(t, key, crumb)
		}
	}
	if b, e := Seal(9, api.Crumb{}); len(b) != 0 || e != api.ErrArg {
		t.Errorf("Seal of nothing: %x, %d", b, e)
	}
}

// TestSealWithoutTheRest: of the other numbers each may be 0.
func TestSealWithoutTheRest(t *testing.T) {
	for i, drop := range []func(c *api.Crumb){
		func(c *api.Crumb) { c.Time = 0 },
		func(c *api.Crumb) { c.MyTSN = 0 },
		func(c *api.Crumb) { c.PeerTSN = 0 },
		func(c *api.Crumb) { c.Window = 0 },
		func(c *api.Crumb) { c.TieMine = 0 },
		func(c *api.Crumb) { c.TiePeer = 0 },
	} {
		c := mixed()
		drop(&c)
		b, e := Seal(9, c)
		if got, f := Open(9, b); got != c || e != api.OK || f != api.OK {
			t.Errorf("without the number %d: %d, %v, %d", i, e, got, f)
		}
	}
}

func TestOpenOfEveryLength(t *testing.T) {
	long := bytes.Repeat(laid(9, 5, example()), 110)
	for n := range len(long) + 1 {
		switch {
		case n < 40:
			refused(t, 9, long[:n], api.ErrShort)
		case n > 40:
			refused(t, 9, long[:n], api.ErrForm)
		default:
			opens(t, 9, long[:n])
		}
	}
	refused(t, 9, nil, api.ErrShort)
	refused(t, 0, nil, api.ErrShort)
	refused(t, 0, []byte{}, api.ErrShort)
	// Whatever the bytes are, their number comes first.
	for _, key := range keys {
		for _, fill := range []byte{0, 1, 255} {
			refused(t, key, bytes.Repeat([]byte{fill}, 39), api.ErrShort)
			refused(t, key, bytes.Repeat([]byte{fill}, 41), api.ErrForm)
			refused(t, key, bytes.Repeat([]byte{fill}, 40), api.ErrSum)
		}
	}
}

// TestOpenCountsLength: what stands between the end of a slice and its capacity is no part of it.
func TestOpenCountsLength(t *testing.T) {
	b := laid(9, 5, example())
	refused(t, 9, b[:39], api.ErrShort)
	longer := append(slices.Clone(b), 1, 2, 3)
	if c, e := Open(9, longer[:40]); c != example() || e != api.OK {
		t.Errorf("Open ahead of other bytes: %v, %d", c, e)
	}
}

// TestOpenFaults: bytes with the right checksum that say what can't be sealed.
func TestOpenFaults(t *testing.T) {
	cases := []struct {
		time       uint64
		mine, peer uint32
		want       api.Errno
	}{
		{0, 1, 1, api.OK},
		{1 << 40, 1, 1, api.OK},
		{1<<40 + 1, 1, 1, api.ErrForm},
		{1 << 41, 1, 1, api.ErrForm},
		{1<<63 - 1, 1, 1, api.ErrForm},
		{1 << 63, 1, 1, api.ErrForm},
		{1<<63 + 5, 1, 1, api.ErrForm},
		{math.MaxUint64 - 4, 1, 1, api.ErrForm},
		{math.MaxUint64, 1, 1, api.ErrForm},
		{5, 0, 1, api.ErrForm},
		{5, 1, 0, api.ErrForm},
		{5, 0, 0, api.ErrForm},
		{math.MaxUint64, 0, 0, api.ErrForm},
		{1 << 40, math.MaxUint32, math.MaxUint32, api.OK},
	}
	for _, key := range keys {
		for _, c := range cases {
			crumb := mixed()
			crumb.Mine, crumb.Peer = c.mine, c.peer
			b := laid(key, c.time, crumb)
			opens(t, key, b)
			if _, e := Open(key, b); e != c.want {
				t.Errorf("Open(%x, %x): %d, want %d", key, b, e, c.want)
			}
			b[37] ^= 4 // A wrong checksum comes before what the bytes say.
			refused(t, key, b, api.ErrSum)
		}
	}
	for bit := 41; bit < 64; bit++ {
		refused(t, 9, laid(9, 5|1<<bit, example()), api.ErrForm)
	}
	refused(t, 9, sealed(9, make([]byte, 36)), api.ErrForm)
}

// TestWrongSum: checksums of something else than the chapter says, or with their bytes in another order.
func TestWrongSum(t *testing.T) {
	const key = 0x0102030405060708
	table := crc32.MakeTable(crc32.Castagnoli)
	content := laid(key, 0x98765432fe, mixed())[:36]
	k := binary.BigEndian.AppendUint64(nil, key)
	back := binary.LittleEndian.AppendUint64(nil, key)
	for i, whole := range [][]byte{
		content,
		slices.Concat(k, content),
		slices.Concat(content, k),
		slices.Concat(k, k, content),
		slices.Concat(content, k, k),
		slices.Concat(back, content, back),
		slices.Concat(k, content, back),
		slices.Concat(back, content, k),
		slices.Concat(k[4:], content, k[4:]),
		slices.Concat(k, content, []byte{0, 0, 0, 0}, k),
		slices.Concat(k, content, k, k),
		nil,
	} {
		if c, e := Open(key, binary.BigEndian.AppendUint32(slices.Clone(content), crc32.Checksum(whole, table))); c != (api.Crumb{}) || e != api.ErrSum {
			t.Errorf("the checksum %d: %v, %d", i, c, e)
		}
	}
	right := plainSum(key, content)
	refused(t, key, binary.LittleEndian.AppendUint32(slices.Clone(content), right), api.ErrSum)
	refused(t, key, binary.BigEndian.AppendUint32(slices.Clone(content), ^right), api.ErrSum)
	refused(t, key, binary.BigEndian.AppendUint32(slices.Clone(content), right+1), api.ErrSum)
	refused(t, key, binary.BigEndian.AppendUint32(slices.Clone(content), crc32.ChecksumIEEE(slices.Concat(k, content, k))), api.ErrSum)
	opens(t, key, binary.BigEndian.AppendUint32(slices.Clone(content), right))
}

// TestChangedBitsAreRefused: every bit of a cookie, and every two of them.
func TestChangedBitsAreRefused(t *testing.T) {
	b := laid(0xf1e2d3c4b5a69788, 0x98765432fe, mixed())
	for i := range 8 * len(b) {
		b[i/8] ^= 1 << (i % 8)
		refused(t, 0xf1e2d3c4b5a69788, b, api.ErrSum)
		for j := range i {
			b[j/8] ^= 1 << (j % 8)
			if c, e := Open(0xf1e2d3c4b5a69788, b); c != (api.Crumb{}) || e != api.ErrSum {
				t.Fatalf("the bits %d and %d change: %v, %d", i, j, c, e)
			}
			b[j/8] ^= 1 << (j % 8)
		}
		b[i/8] ^= 1 << (i % 8)
	}
}

// TestSwappedNumbersAreRefused: two numbers of a cookie that change places.
func TestSwappedNumbersAreRefused(t *testing.T) {
	b := laid(9, 0x98765432fe, mixed())
	for i := 0; i < len(b); i += 4 {
		for j := range i / 4 {
			swapped := slices.Clone(b)
			copy(swapped[i:], b[4*j:4*j+4])
			copy(swapped[4*j:], b[i:i+4])
			opens(t, 9, swapped)
			refused(t, 9, swapped, api.ErrSum)
		}
	}
}

// TestOtherKeysAreRefused: a key that differs in one bit or two from the one that sealed, and those of keys.
func TestOtherKeysAreRefused(t *testing.T) {
	for _, key := range keys {
		b := laid(key, 0x98765432fe, mixed())
		for _, other := range keys {
			if other != key {
				refused(t, other, b, api.ErrSum)
			}
		}
		for i := range 64 {
			refused(t, key^1<<i, b, api.ErrSum)
			for j := range i {
				refused(t, key^1<<i^1<<j, b, api.ErrSum)
			}
		}
		opens(t, key, b)
	}
}

// TestKeysOfOneSum: the checksum alone decides, so that the few keys that share it with the one that sealed open the cookie too.
func TestKeysOfOneSum(t *testing.T) {
	b, _ := Seal(9, example())
	if c, e := Open(0xaf2da4f5, b); c != example() || e != api.OK {
		t.Errorf("Open with a key of the same checksum: %v, %d", c, e)
	}
}

func TestFreshEdges(t *testing.T) {
	at := func(time int) api.Crumb { return api.Crumb{Time: time, Mine: 1, Peer: 1} }
	cases := []struct {
		time, now, life int
		want            bool
	}{
		{5, 5, 0, true},
		{5, 6, 0, false},
		{5, 4, 0, false},
		{0, 0, 0, true},
		{0, -1, 10, false},
		{5, 5, -1, false},
		{5, 4, -1, false},
		{5, 3, -2, false},
		{5, 5, math.MinInt, false},
		{5, math.MinInt, math.MinInt, false},
		{5, math.MinInt, math.MaxInt, false},
		{5, 5, math.MaxInt, true},
		{5, 4, math.MaxInt, false},
		{5, math.MaxInt, math.MaxInt, true}, // Time + life is beyond what an int holds
		{5, math.MaxInt, math.MaxInt - 5, true},
		{5, math.MaxInt, math.MaxInt - 6, false},
		{math.MaxInt, math.MaxInt, math.MaxInt, true},
		{math.MaxInt, math.MaxInt, 0, true},
		{math.MaxInt, math.MinInt, 1, false},
		{math.MaxInt, math.MinInt, math.MaxInt, false},
		{math.MaxInt, math.MaxInt - 1, math.MaxInt, false},
		{math.MinInt, math.MaxInt, math.MaxInt, false}, // now - Time is beyond what an int holds
		{math.MinInt, math.MaxInt, 0, false},
		{math.MinInt, -1, math.MaxInt, true},
		{math.MinInt, 0, math.MaxInt, false},
		{math.MinInt, math.MinInt, 0, true},
		{math.MinInt, math.MinInt, -1, false},
		{-2, math.MaxInt - 1, math.MaxInt, false},
		{-1, math.MaxInt - 1, math.MaxInt, true},
		{-1, math.MaxInt, math.MaxInt, false},
		{-5, 0, 5, true},
		{-5, 1, 5, false},
		{api.MaxTime, api.MaxTime + 1<<20, 1 << 20, true},
		{api.MaxTime, api.MaxTime + 1<<20 + 1, 1 << 20, false},
	}
	for _, c := range cases {
		if got := Fresh(at(c.time), c.now, c.life); got != c.want {
			t.Errorf("Fresh of Time %d at %d with life %d: %v", c.time, c.now, c.life, got)
		}
	}
}

func TestFreshOfExtremes(t *testing.T) {
	for _, time := range extremes {
		c := mixed()
		c.Time = time
		for _, now := range extremes {
			for _, life := range extremes {
				if got, want := Fresh(c, now, life), plainFresh(c, now, life); got != want {
					t.Errorf("Fresh of Time %d at %d with life %d: %v", time, now, life, got)
				}
			}
		}
	}
}

func TestFreshOfSmallNumbers(t *testing.T) {
	for time := -3; time <= 6; time++ {
		for life := -3; life <= 6; life++ {
			for now := -8; now <= 14; now++ {
				want := time <= now && now <= time+life
				if got := Fresh(api.Crumb{Time: time}, now, life); got != want {
					t.Errorf("Fresh of Time %d at %d with life %d: %v", time, now, life, got)
				}
			}
		}
	}
}

// TestFreshGoesByTheTimeAlone: the other numbers of a Crumb count for nothing, not even those without which it can't be sealed.
func TestFreshGoesByTheTimeAlone(t *testing.T) {
	for _, c := range []api.Crumb{{}, mixed(), {Mine: 1}, {Peer: 1}, {Window: math.MaxUint32, TieMine: 5, TiePeer: 5}} {
		c.Time = 5
		if !Fresh(c, 5, 10) || !Fresh(c, 15, 10) || Fresh(c, 16, 10) || Fresh(c, 4, 10) {
			t.Errorf("Fresh of %v", c)
		}
	}
}

// TestArgumentsAreLeftAlone: Open neither changes the bytes, not even behind their end, nor keeps them.
func TestArgumentsAreLeftAlone(t *testing.T) {
	b := laid(9, 5, example())
	bad := slices.Clone(b)
	bad[20] ^= 1
	for _, given := range [][]byte{b, bad, b[:39], append(slices.Clone(b), 7), sealed(9, make([]byte, 36))} {
		whole := append(slices.Clone(given), bytes.Repeat([]byte{0xab}, 60)...)
		before := slices.Clone(whole)
		c, e := Open(9, whole[:len(given)])
		if !bytes.Equal(whole, before) {
			t.Errorf("Open(9, %x) changed its argument: %x", given, whole)
		}
		was := c
		clear(whole)
		if again, f := Open(9, given); c != was || again != was || f != e {
			t.Errorf("Open(9, %x) = %v, %d, and then %v, %d", given, was, e, again, f)
		}
	}
	c := example()
	if _, e := Seal(9, c); c != example() || e != api.OK {
		t.Errorf("Seal changed its argument: %v", c)
	}
}

func TestResultsShareNoMemory(t *testing.T) {
	b, _ := Seal(9, example())
	again, _ := Seal(9, example())
	for i := range again[:cap(again)] {
		again[:cap(again)][i] = 0xee
	}
	if !bytes.Equal(b, laid(9, 5, example())) {
		t.Errorf("Seal's results share memory: %x", b)
	}
	third, e := Seal(9, example())
	if !bytes.Equal(third, b) || e != api.OK {
		t.Errorf("Seal kept its result: %x", third)
	}
}

func TestTwiceTheSame(t *testing.T) {
	want := laid(9, 5, example())
	for range 3 {
		b, e := Seal(9, example())
		c, f := Open(9, b)
		if !bytes.Equal(b, want) || e != api.OK || c != example() || f != api.OK || !Fresh(c, 15, 10) {
			t.Fatalf("Seal, Open: %x, %d, %v, %d", b, e, c, f)
		}
		refused(t, 10, b, api.ErrSum)
		refused(t, 9, nil, api.ErrShort)
		if _, e := Seal(9, api.Crumb{}); e != api.ErrArg {
			t.Fatalf("Seal of nothing: %d", e)
		}
	}
}

// FuzzAnyArguments holds every call against the chapter's words, for whatever is given.
func FuzzAnyArguments(f *testing.F) {
	f.Add(uint64(9), laid(9, 5, example()), 5, 10, uint32(1), uint32(2))
	f.Add(uint64(0), laid(0, 1<<40+1, mixed()), math.MaxInt, math.MaxInt, uint32(0), uint32(1))
	f.Add(uint64(math.MaxUint64), make([]byte, 40), math.MinInt, -1, uint32(1), uint32(0))
	f.Add(uint64(1), []byte(nil), -1, 0, uint32(math.MaxUint32), uint32(math.MaxUint32))
	f.Add(uint64(7), make([]byte, 41), api.MaxTime, 1<<20, uint32(1), uint32(1))
	f.Fuzz(func(t *testing.T, key uint64, b []byte, time, life int, mine, peer uint32) {
		was := string(b)
		opens(t, key, b)
		if len(b) >= 36 {
			opens(t, key, sealed(key, b[:36]))
		}
		c := api.Crumb{Time: time, Mine: mine, Peer: peer, MyTSN: peer ^ mine, PeerTSN: mine + 1, Window: uint32(life), TieMine: peer - 1, TiePeer: uint32(key)}
		seals(t, key, c)
		for _, now := range []int{0, time, life, time + life, time + life + 1, time - 1, int(key)} {
			if got, want := Fresh(c, now, life), plainFresh(c, now, life); got != want {
				t.Fatalf("Fresh of Time %d at %d with life %d: %v", time, now, life, got)
			}
		}
		if string(b) != was {
			t.Fatalf("the argument changed")
		}
	})
}
