package packet

import (
	"bytes"
	"encoding/binary"
	"encoding/hex"
	"hash/crc32"
	"math"
	"reflect"
	"slices"
	"strings"
	"testing"

	"trunkline/api"
)

// unhex returns the bytes that a text of hexadecimal digits and blanks says.
func unhex(t testing.TB, s string) []byte {
	t.Helper()
	b, err := hex.DecodeString(strings.ReplaceAll(s, " ", ""))
	if err != nil {
		t.Fatal(err)
	}
	return b
}

// made is a chunk of those parts.
func made(kind, flags uint8, value string) api.Chunk {
	return api.Chunk{Type: kind, Flags: flags, Value: []byte(value)}
}

// kinds is a chunk of each of those kinds.
func kinds(list ...uint8) []api.Chunk {
	var r []api.Chunk
	for _, kind := range list {
		r = append(r, api.Chunk{Type: kind})
	}
	return r
}

// long is a chunk that takes n bytes of a packet, n a multiple of 4.
func long(kind uint8, n int) api.Chunk {
	return api.Chunk{Type: kind, Value: bytes.Repeat([]byte{0x5a}, n-4)}
}

// packed is a packet of those chunks, with nothing wrong ahead of them.
func packed(tag uint32, list ...api.Chunk) api.Packet {
	return api.Packet{From: 1, To: 2, Tag: tag, Chunks: list}
}

func sameChunk(a, b api.Chunk) bool {
	return a.Type == b.Type && a.Flags == b.Flags && bytes.Equal(a.Value, b.Value)
}

// same holds two packets against each other; nil and empty are the same.
func same(a, b api.Packet) bool {
	return a.From == b.From && a.To == b.To && a.Tag == b.Tag && slices.EqualFunc(a.Chunks, b.Chunks, sameChunk)
}

// plainSum is the checksum of the bytes of a packet, by the library.
func plainSum(b []byte) uint32 {
	table := crc32.MakeTable(crc32.Castagnoli)
	sum := crc32.Update(crc32.Checksum(b[:8], table), table, []byte{0, 0, 0, 0})
	return crc32.Update(sum, table, b[12:])
}

// seal returns b, of at least 12 bytes, with its checksum in its place.
func seal(b []byte) []byte {
	r := slices.Clone(b)
	binary.LittleEndian.PutUint32(r[8:], plainSum(b))
	return r
}

// plainWrong tells whether the conditions of the chapter, one by one, are violated.
func plainWrong(p api.Packet) bool {
	if p.From == 0 || p.To == 0 || len(p.Chunks) == 0 {
		return true
	}
	for _, c := range p.Chunks {
		switch {
		case c.Type == 1 && p.Tag != 0:
			return true
		case c.Type != 1 && p.Tag == 0:
			return true
		case (c.Type == 1 || c.Type == 2 || c.Type == 14) && len(p.Chunks) != 1:
			return true
		}
	}
	return false
}

// plainPut does what the chapter asks of Put.
func plainPut(p api.Packet) ([]byte, api.Errno) {
	if plainWrong(p) {
		return nil, api.ErrForm
	}
	if len(p.Chunks) > 32 {
		return nil, api.ErrLarge
	}
	b := []byte{byte(p.From >> 8), byte(p.From), byte(p.To >> 8), byte(p.To), byte(p.Tag >> 24), byte(p.Tag >> 16), byte(p.Tag >> 8), byte(p.Tag), 0, 0, 0, 0}
	for _, c := range p.Chunks {
		n := len(c.Value) + 4
		b = append(b, c.Type, c.Flags, byte(n>>8), byte(n))
		b = append(b, c.Value...)
		for len(b)%4 != 0 {
			b = append(b, 0)
		}
		if len(b) > 4096 {
			return nil, api.ErrLarge
		}
	}
	return seal(b), api.OK
}

// plainGet does what the chapter asks of Get, by the places of the bytes.
func plainGet(b []byte) (api.Packet, api.Errno) {
	if len(b) > 4096 {
		return api.Packet{}, api.ErrLarge
	}
	if len(b) < 12 {
		return api.Packet{}, api.ErrShort
	}
	if binary.LittleEndian.Uint32(b[8:]) != plainSum(b) {
		return api.Packet{}, api.ErrSum
	}
	p := api.Packet{From: binary.BigEndian.Uint16(b), To: binary.BigEndian.Uint16(b[2:]), Tag: binary.BigEndian.Uint32(b[4:])}
	for rest := b[12:]; len(rest) > 0; {
		if len(p.Chunks) == 32 {
			return api.Packet{}, api.ErrLarge
		}
		if len(rest) < 4 {
			return api.Packet{}, api.ErrShort
		}
		n := int(binary.BigEndian.Uint16(rest[2:]))
		if n < 4 {
			return api.Packet{}, api.ErrForm
		}
		whole := (n + 3) / 4 * 4
		if whole > len(rest) {
			return api.Packet{}, api.ErrShort
		}
		for _, x := range rest[n:whole] {
			if x != 0 {
				return api.Packet{}, api.ErrForm
			}
		}
		p.Chunks = append(p.Chunks, api.Chunk{Type: rest[0], Flags: rest[1], Value: rest[4:n]})
		rest = rest[whole:]
	}
	if plainWrong(p) {
		return api.Packet{}, api.ErrForm
	}
	return p, api.OK
}

// puts holds Put of p against the plain way, and Get of what it returns against p.
func puts(t *testing.T, p api.Packet) {
	t.Helper()
	b, e := Put(p)
	if want, we := plainPut(p); !bytes.Equal(b, want) || e != we {
		t.Fatalf("Put(%v): %x, %d, want %x, %d", p, b, e, want, we)
	}
	if e != api.OK {
		return
	}
	if q, e := Get(b); !same(q, p) || e != api.OK {
		t.Fatalf("Get of Put(%v): %v, %d", p, q, e)
	}
}

// gets holds Get of b against the plain way, and Put of what it returns against b.
func gets(t *testing.T, b []byte) {
	t.Helper()
	p, e := Get(b)
	if want, we := plainGet(b); !same(p, want) || e != we {
		t.Fatalf("Get(%x): %v, %d, want %v, %d", b, p, e, want, we)
	}
	if e != api.OK {
		return
	}
	if again, e := Put(p); !bytes.Equal(again, b) || e != api.OK {
		t.Fatalf("Put of Get(%x): %x, %d", b, again, e)
	}
}

func example() api.Packet {
	return packed(3, made(api.CookieAck, 0, ""), made(api.Beat, 0, "beat"))
}

func TestExample(t *testing.T) {
	b, e := Put(example())
	if len(b) != 24 || e != api.OK {
		t.Fatalf("Put: %x, %d", b, e)
	}
	if p, e := Get(b); !same(p, example()) || e != api.OK {
		t.Errorf("Get: %v, %d", p, e)
	}
	for bit := range 8 * len(b) {
		turned := slices.Clone(b)
		turned[bit/8] ^= 1 << (bit % 8)
		if p, e := Get(turned); !same(p, api.Packet{}) || e != api.ErrSum {
			t.Errorf("Get with bit %d inverted: %v, %d", bit, p, e)
		}
	}
	if p, e := Get(b[:11]); !same(p, api.Packet{}) || e != api.ErrShort {
		t.Errorf("Get of its first 11 bytes: %v, %d", p, e)
	}
}

func TestBytes(t *testing.T) {
	for _, x := range []struct {
		p    api.Packet
		want string
	}{
		{example(), "0001 0002 00000003 24383217 0b000004 04000008 62656174"},
		{
			api.Packet{From: 5001, To: 5002, Chunks: []api.Chunk{made(1, 0, "\x00\x00\x00\x05\x00\x01\x00\x00\x00\x08\x00\x08\x00\x00\x00\x07")}},
			"1389 138a 00000000 160978c5 01000014 00000005 00010000 00080008 00000007",
		},
		{
			api.Packet{From: 65535, To: 65534, Tag: 0xfdfcfbfa, Chunks: []api.Chunk{made(255, 240, "\xaa")}},
			"ffff fffe fdfcfbfa 5cdaa6d7 fff00005 aa000000",
		},
	} {
		want := unhex(t, x.want)
		if b, e := Put(x.p); !bytes.Equal(b, want) || e != api.OK {
			t.Errorf("Put(%v): %x, %d, want %x", x.p, b, e, want)
		}
		if p, e := Get(want); !same(p, x.p) || e != api.OK {
			t.Errorf("Get(%x): %v, %d, want %v", want, p, e, x.p)
		}
	}
}

// TestEveryNumber: each number stands in bytes of its own, and is the same again.
func TestEveryNumber(t *testing.T) {
	for _, from := range []uint16{1, 2, 255, 256, 0x1234, 32767, 32768, 65535} {
		for _, to := range []uint16{1, 3, 255, 256, 0x5678, 65535} {
			for _, tag := range []uint32{1, 255, 256, 0x9abcdef0, 1 << 16, 1 << 24, 1 << 31, math.MaxUint32} {
				puts(t, api.Packet{From: from, To: to, Tag: tag, Chunks: kinds(0, 3)})
			}
			puts(t, api.Packet{From: from, To: to, Chunks: kinds(1)})
		}
	}
}

func TestEveryLength(t *testing.T) {
	for n := range 600 {
		puts(t, packed(7, made(0, 3, strings.Repeat("\xa5", n)), made(3, 0, "")))
	}
	for n := 4060; n < 4110; n++ {
		puts(t, packed(7, made(0, 3, strings.Repeat("\xa5", n))))
	}
	for n := range 40 {
		puts(t, packed(7, slices.Repeat(kinds(0), n)...))
	}
}

func TestAlone(t *testing.T) {
	for kind := range 256 {
		want := kind == 1 || kind == 2 || kind == 14
		if got := Alone(uint8(kind)); got != want {
			t.Errorf("Alone(%d) = %v", kind, got)
		}
	}
}

func TestWrongForm(t *testing.T) {
	data := kinds(0)
	for _, x := range []struct {
		name string
		p    api.Packet
		e    api.Errno
	}{
		{"nothing", api.Packet{}, api.ErrForm},
		{"a Data", packed(1, data...), api.OK},
		{"From 0", api.Packet{To: 2, Tag: 3, Chunks: data}, api.ErrForm},
		{"To 0", api.Packet{From: 1, Tag: 3, Chunks: data}, api.ErrForm},
		{"From and To 0", api.Packet{Tag: 3, Chunks: data}, api.ErrForm},
		{"From and To the same", api.Packet{From: 9, To: 9, Tag: 3, Chunks: data}, api.OK},
		{"From 256 and To 256", api.Packet{From: 256, To: 256, Tag: 3, Chunks: data}, api.OK},
		{"no chunks", packed(1), api.ErrForm},
		{"no chunks, and no Tag", packed(0), api.ErrForm},
		{"empty chunks", api.Packet{From: 1, To: 2, Tag: 3, Chunks: []api.Chunk{}}, api.ErrForm},
		{"an Init", packed(0, kinds(1)...), api.OK},
		{"an Init with a Tag", packed(1, kinds(1)...), api.ErrForm},
		{"an Init with the highest Tag", packed(math.MaxUint32, kinds(1)...), api.ErrForm},
		{"an Init with a Tag of few low bits", packed(1<<16, kinds(1)...), api.ErrForm},
		{"an Init and a Data", packed(0, kinds(1, 0)...), api.ErrForm},
		{"an Init and a Data with a Tag", packed(1, kinds(1, 0)...), api.ErrForm},
		{"a Data and an Init", packed(0, kinds(0, 1)...), api.ErrForm},
		{"two Inits", packed(0, kinds(1, 1)...), api.ErrForm},
		{"two Inits with a Tag", packed(1, kinds(1, 1)...), api.ErrForm},
		{"an InitAck", packed(1, kinds(2)...), api.OK},
		{"an InitAck without a Tag", packed(0, kinds(2)...), api.ErrForm},
		{"an InitAck and a Sack", packed(1, kinds(2, 3)...), api.ErrForm},
		{"two InitAcks", packed(1, kinds(2, 2)...), api.ErrForm},
		{"a ShutdownComplete", packed(1, kinds(14)...), api.OK},
		{"a ShutdownComplete without a Tag", packed(0, kinds(14)...), api.ErrForm},
		{"a Beat and a ShutdownComplete", packed(1, kinds(4, 14)...), api.ErrForm},
		{"a ShutdownComplete behind 31 others", packed(1, append(slices.Repeat(kinds(0), 31), kinds(14)...)...), api.ErrForm},
		{"a ShutdownComplete among others", packed(1, kinds(0, 0, 14, 0)...), api.ErrForm},
		{"a Data without a Tag", packed(0, data...), api.ErrForm},
		{"an Abort without a Tag", packed(0, kinds(6)...), api.ErrForm},
		{"an unknown chunk without a Tag", packed(0, kinds(200)...), api.ErrForm},
		{"unknown chunks", packed(1, kinds(200, 129, 17)...), api.OK},
		{"an Abort, a Shutdown, a ShutdownAck, an Error", packed(1, kinds(6, 7, 8, 9)...), api.OK},
		{"a CookieEcho and a Data", packed(1, kinds(10, 0)...), api.OK},
	} {
		b, e := Put(x.p)
		if e != x.e || e != api.OK && len(b) != 0 {
			t.Errorf("Put of %s: %x, %d, want %d", x.name, b, e, x.e)
		}
		puts(t, x.p)
		gets(t, laid(x.p))
		if p, e := Get(laid(x.p)); e != x.e || e != api.OK && !reflect.DeepEqual(p, api.Packet{}) {
			t.Errorf("Get of %s: %v, %d, want %d", x.name, p, e, x.e)
		}
	}
}

// laid returns the bytes that a packet would have if all its parts were allowed.
func laid(p api.Packet) []byte {
	b := binary.BigEndian.AppendUint16(nil, p.From)
	b = binary.BigEndian.AppendUint16(b, p.To)
	b = binary.BigEndian.AppendUint32(b, p.Tag)
	b = append(b, 0, 0, 0, 0)
	for _, c := range p.Chunks {
		b = append(b, c.Type, c.Flags)
		b = binary.BigEndian.AppendUint16(b, uint16(4+len(c.Value)))
		b = append(b, c.Value...)
		b = append(b, make([]byte, (4-len(c.Value)%4)%4)...)
	}
	return seal(b)
}

// TestEveryKind: every kind alone, and beside every other one, with a Tag and without.
func TestEveryKind(t *testing.T) {
	for kind := range 256 {
		for _, tag := range []uint32{0, 1, 1 << 31} {
			one := packed(tag, kinds(uint8(kind))...)
			puts(t, one)
			gets(t, laid(one))
			for other := range 256 {
				two := packed(tag, kinds(uint8(kind), uint8(other))...)
				puts(t, two)
				gets(t, laid(two))
			}
		}
	}
}

func TestPutTooMuch(t *testing.T) {
	many := slices.Repeat(kinds(0), 33)
	for _, x := range []struct {
		name string
		p    api.Packet
		e    api.Errno
		size int
	}{
		{"32 chunks", packed(1, many[:32]...), api.OK, 140},
		{"33 chunks", packed(1, many...), api.ErrLarge, 0},
		{"very many chunks", packed(1, make([]api.Chunk, 100000)...), api.ErrLarge, 0},
		{"4096 bytes", packed(1, long(0, 4084)), api.OK, 4096},
		{"4096 bytes with their zeros", packed(1, made(0, 0, strings.Repeat("a", 4077))), api.OK, 4096},
		{"4096 bytes of two", packed(1, long(0, 2000), long(3, 2084)), api.OK, 4096},
		{"an Init of 4096 bytes", packed(0, long(1, 4084)), api.OK, 4096},
		{"4097 bytes and their zeros", packed(1, made(0, 0, strings.Repeat("a", 4081))), api.ErrLarge, 0},
		{"4100 bytes", packed(1, long(0, 4088)), api.ErrLarge, 0},
		{"4100 bytes of two", packed(1, long(0, 2000), long(3, 2088)), api.ErrLarge, 0},
		{"4104 bytes", packed(1, long(0, 4092)), api.ErrLarge, 0},
		{"4096 bytes of chunks alone", packed(1, long(0, 4096)), api.ErrLarge, 0},
		{"4100 bytes of chunks alone", packed(1, long(0, 4100)), api.ErrLarge, 0},
		{"a length that comes round to 4", packed(1, long(0, 65540)), api.ErrLarge, 0},
		{"a length that comes round to 0", packed(1, long(0, 65536)), api.ErrLarge, 0},
		{"far too much", packed(1, long(0, 1<<20), long(0, 4)), api.ErrLarge, 0},
		// an error of the form comes ahead of too much:
		{"33 chunks without a Tag", packed(0, many...), api.ErrForm, 0},
		{"33 chunks with From 0", api.Packet{To: 1, Tag: 1, Chunks: many}, api.ErrForm, 0},
		{"33 chunks with To 0", api.Packet{From: 1, Tag: 1, Chunks: many}, api.ErrForm, 0},
		{"33 chunks, the last an Init", packed(1, append(slices.Clone(many[:32]), kinds(1)...)...), api.ErrForm, 0},
		{"33 chunks, the last an InitAck", packed(1, append(slices.Clone(many[:32]), kinds(2)...)...), api.ErrForm, 0},
		{"33 Inits", packed(0, slices.Repeat(kinds(1), 33)...), api.ErrForm, 0},
		{"4100 bytes without a Tag", packed(0, long(0, 4088)), api.ErrForm, 0},
		{"far too much without a Tag", packed(0, long(0, 1<<20)), api.ErrForm, 0},
		{"far too much with an InitAck behind it", packed(1, long(0, 1<<20), long(2, 4)), api.ErrForm, 0},
	} {
		if b, e := Put(x.p); e != x.e || len(b) != x.size {
			t.Errorf("Put of %s: %d bytes, %d, want %d, %d", x.name, len(b), e, x.size, x.e)
		}
		puts(t, x.p)
	}
}

func TestGet(t *testing.T) {
	const ahead = "0001 0002 00000003 00000000"
	for _, x := range []struct {
		bytes string // with their checksum still missing
		want  []api.Chunk
		e     api.Errno
	}{
		{ahead + "0b000004", kinds(11), api.OK},
		{ahead + "0a010007 61626300 0b000004", []api.Chunk{made(10, 1, "abc"), made(11, 0, "")}, api.OK},
		{"0001 0002 00000000 00000000 01000004", kinds(1), api.OK},
		// no chunks
		{ahead, nil, api.ErrForm},
		// the errors of chapter 7
		{ahead + "0b", nil, api.ErrShort},
		{ahead + "0b0000", nil, api.ErrShort},
		{ahead + "0b000003", nil, api.ErrForm},
		{ahead + "0b000000", nil, api.ErrForm},
		{ahead + "0b000005", nil, api.ErrShort},
		{ahead + "0b000005 610000", nil, api.ErrShort},
		{ahead + "0b000005 61000001", nil, api.ErrForm},
		{ahead + "0b00ffff 00000000", nil, api.ErrShort},
		{ahead + "0b000004 0b0000", nil, api.ErrShort},
		{ahead + strings.Repeat("0b000004", 32), slices.Repeat(kinds(11), 32), api.OK},
		{ahead + strings.Repeat("0b000004", 33), nil, api.ErrLarge},
		{ahead + strings.Repeat("0b000004", 32) + "0b", nil, api.ErrLarge},
		// they come ahead of those of the form
		{"0000 0002 00000003 00000000 0b", nil, api.ErrShort},
		{"0001 0000 00000003 00000000 0b00", nil, api.ErrShort},
		{"0001 0002 00000000 00000000 0b0000", nil, api.ErrShort},
		{"0000 0000 00000000 00000000" + strings.Repeat("0b000004", 33), nil, api.ErrLarge},
		{ahead + "01000004 0b", nil, api.ErrShort},
		{ahead + "02000004 0b000005", nil, api.ErrShort},
		{ahead + "0e000004" + strings.Repeat("0e000004", 32), nil, api.ErrLarge},
	} {
		b := seal(unhex(t, x.bytes))
		p, e := Get(b)
		var want api.Packet
		if x.e == api.OK {
			want = api.Packet{From: 1, To: 2, Tag: binary.BigEndian.Uint32(b[4:]), Chunks: x.want}
		}
		if !same(p, want) || e != x.e {
			t.Errorf("Get(%s): %v, %d, want %v, %d", x.bytes, p, e, want, x.e)
		}
		gets(t, b)
	}
}

// TestGetOfEveryLength: too long and too short come ahead of a wrong checksum, and it ahead of what the chunks are.
func TestGetOfEveryLength(t *testing.T) {
	for _, n := range []int{0, 1, 2, 4, 8, 10, 11, 12, 13, 15, 16, 17, 20, 4095, 4096, 4097, 4098, 4100, 1 << 16, 1 << 20} {
		want := api.ErrSum
		switch {
		case n < 12:
			want = api.ErrShort
		case n > 4096:
			want = api.ErrLarge
		}
		if p, e := Get(bytes.Repeat([]byte{0xff}, n)); !same(p, api.Packet{}) || e != want {
			t.Errorf("Get of %d bytes: %v, %d, want %d", n, p, e, want)
		}
	}
	if _, e := Get(nil); e != api.ErrShort {
		t.Errorf("Get(nil): %d", e)
	}
	whole := laid(packed(1, long(0, 4084)))
	if p, e := Get(whole); len(p.Chunks) != 1 || e != api.OK {
		t.Errorf("Get of 4096 bytes: %d chunks, %d", len(p.Chunks), e)
	}
	if p, e := Get(laid(packed(1, long(0, 4088)))); !same(p, api.Packet{}) || e != api.ErrLarge {
		t.Errorf("Get of 4100 bytes: %v, %d", p, e)
	}
	if p, e := Get(seal(append(whole, 0))); !same(p, api.Packet{}) || e != api.ErrLarge {
		t.Errorf("Get of 4097 bytes: %v, %d", p, e)
	}
}

// TestGetOfEveryBeginning: what is cut off has another checksum; and with its own one, what chapter 7 says.
func TestGetOfEveryBeginning(t *testing.T) {
	b := laid(packed(3, made(10, 1, "abcde"), made(0, 3, "fgh"), made(4, 0, "")))
	for n := range b {
		gets(t, b[:n])
		if n < 12 {
			continue
		}
		if _, e := Get(b[:n]); e != api.ErrSum {
			t.Errorf("Get of the first %d bytes: %d", n, e)
		}
		gets(t, seal(b[:n]))
	}
	for n := 1; n < 9; n++ {
		gets(t, seal(append(slices.Clone(b), make([]byte, n)...)))
		gets(t, append(slices.Clone(b), make([]byte, n)...))
	}
}

// TestGetOfEveryNear: every byte with every value, with the checksum that fits then, and without.
func TestGetOfEveryNear(t *testing.T) {
	for _, p := range []api.Packet{example(), packed(0, long(1, 20)), packed(255, made(14, 1, ""))} {
		b := laid(p)
		for at := range b {
			for x := range 256 {
				near := slices.Clone(b)
				near[at] = byte(x)
				gets(t, near)
				gets(t, seal(near))
			}
		}
	}
}

// TestWrongSum: a checksum is wrong if it is any other, also one that was made in a way that is near the right one.
func TestWrongSum(t *testing.T) {
	table := crc32.MakeTable(crc32.Castagnoli)
	b := laid(example())
	right := binary.LittleEndian.Uint32(b[8:])
	hollow := slices.Concat(b[:8], b[12:])
	for name, sum := range map[string]uint32{
		"none":                              0,
		"all ones":                          math.MaxUint32,
		"inverted":                          ^right,
		"from its other end":                binary.BigEndian.Uint32(b[8:]),
		"one more":                          right + 1,
		"of the bytes without its place":    crc32.Checksum(hollow, table),
		"of the bytes with it":              crc32.Checksum(b, table),
		"of the chunks":                     crc32.Checksum(b[12:], table),
		"of what stands ahead of it":        crc32.Checksum(b[:8], table),
		"of another polynomial":             crc32.ChecksumIEEE(slices.Concat(b[:8], make([]byte, 4), b[12:])),
		"of the bytes with ones in between": crc32.Checksum(slices.Concat(b[:8], []byte{255, 255, 255, 255}, b[12:]), table),
	} {
		wrong := slices.Clone(b)
		binary.LittleEndian.PutUint32(wrong[8:], sum)
		if p, e := Get(wrong); !same(p, api.Packet{}) || e != api.ErrSum {
			t.Errorf("Get with the checksum %s: %v, %d", name, p, e)
		}
	}
	for n := range uint32(2000) {
		wrong := slices.Clone(b)
		binary.LittleEndian.PutUint32(wrong[8:], right^(n*0x9e3779b1|1<<(n%32)))
		gets(t, wrong)
	}
}

// TestWrongSumComesFirst: ahead of whatever else is wrong.
func TestWrongSumComesFirst(t *testing.T) {
	for _, s := range []string{
		"0000 0000 00000000 00000000",
		"0000 0002 00000003 00000000 0b000004",
		"0001 0000 00000003 00000000 0b000004",
		"0001 0002 00000000 00000000 0b000004",
		"0001 0002 00000003 00000000 01000004",
		"0001 0002 00000003 00000000 02000004 0b000004",
		"0001 0002 00000003 00000000 0b",
		"0001 0002 00000003 00000000 0b000003",
		"0001 0002 00000003 00000000 0b000009 00000000",
		"0001 0002 00000003 00000000" + strings.Repeat("0b000004", 33),
	} {
		b := seal(unhex(t, s))
		b[8] ^= 1
		if p, e := Get(b); !same(p, api.Packet{}) || e != api.ErrSum {
			t.Errorf("Get(%x): %v, %d", b, p, e)
		}
	}
}

// changed returns b with the bits of mask inverted from the bit at on; a byte's lowest bit is its first.
func changed(b []byte, at int, mask uint32) []byte {
	r := slices.Clone(b)
	for i := range 32 {
		if mask>>i&1 == 1 {
			r[(at+i)/8] ^= 1 << ((at + i) % 8)
		}
	}
	return r
}

// masks returns changes of 32 consecutive bits, and of fewer.
func masks(random uint32) []uint32 {
	list := []uint32{1, 3, 0x80000001, 0x82f63b78, 0x1edc6f41, 0x05ec76f1, 0x55555555, math.MaxUint32}
	for i := range 32 {
		list = append(list, 1<<i, math.MaxUint32<<i, math.MaxUint32>>i, 0x80000000|1<<i)
	}
	for n := range random {
		list = append(list, n*0x9e3779b1+1)
	}
	return list
}

// TestNearPacketsAreRefused: what is changed within 32 consecutive bits, ahead of the checksum or behind it, has a wrong one.
func TestNearPacketsAreRefused(t *testing.T) {
	refused := func(b []byte, at int, mask uint32) {
		if p, e := Get(changed(b, at, mask)); !same(p, api.Packet{}) || e != api.ErrSum {
			t.Fatalf("Get of %d bytes, with the bits %08x from %d on inverted: %v, %d", len(b), mask, at, p, e)
		}
	}
	small := laid(packed(3, made(11, 0, ""), made(4, 0, "beat"), made(0, 3, "0123456789")))
	for _, mask := range masks(200) {
		for at := range 8*8 - 31 {
			refused(small, at, mask)
		}
		for at := 8 * 12; at <= 8*len(small)-32; at++ {
			refused(small, at, mask)
		}
	}
	for _, b := range [][]byte{laid(packed(9, long(0, 500))), laid(packed(0, long(1, 4084)))} {
		for _, mask := range masks(20) {
			for _, at := range []int{0, 17, 32, 96, 101, 4 * len(b), 8*len(b) - 32} {
				refused(b, at, mask)
			}
		}
	}
}

// TestSwappedBytesAreRefused: two bytes that change places, up to 3 apart, are a change within 32 bits too.
func TestSwappedBytesAreRefused(t *testing.T) {
	b := laid(packed(0x01020304, made(0, 3, "abcdefghijklmnop")))
	for i := range b {
		for j := i + 1; j < min(i+4, len(b)); j++ {
			if b[i] == b[j] || i < 12 && j >= 8 {
				continue
			}
			swapped := slices.Clone(b)
			swapped[i], swapped[j] = b[j], b[i]
			if _, e := Get(swapped); e != api.ErrSum {
				t.Errorf("the bytes %d and %d change places: %d", i, j, e)
			}
		}
	}
}

// spare returns the bytes of s with capacity left behind them, that nobody may write to.
func spare(s string) []byte {
	return append(make([]byte, 0, len(s)+64), s...)
}

// untouched tells whether b still is s, and nothing was written behind it.
func untouched(b []byte, s string) bool {
	return string(b) == s && string(b[len(b):cap(b)]) == strings.Repeat("\x00", cap(b)-len(b))
}

func TestArgumentsAreLeftAlone(t *testing.T) {
	v, w := spare("abc"), spare("de")
	list := append(make([]api.Chunk, 0, 8), api.Chunk{Type: 4, Value: v}, api.Chunk{Type: 5, Value: w})
	b, e := Put(packed(3, list...))
	if e != api.OK {
		t.Fatalf("Put: %d", e)
	}
	if !untouched(v, "abc") || !untouched(w, "de") || list[0].Type != 4 || list[1].Type != 5 || !sameChunk(list[:3][2], api.Chunk{}) {
		t.Errorf("Put changed its arguments")
	}
	given := spare(string(b))
	if _, e := Get(given); e != api.OK || !untouched(given, string(b)) {
		t.Errorf("Get changed its argument: %d", e)
	}
	b[9] ^= 1
	given = spare(string(b))
	if _, e := Get(given); e != api.ErrSum || !untouched(given, string(b)) {
		t.Errorf("Get changed its argument, with a wrong checksum: %d", e)
	}
}

// spoil writes over all that b can reach.
func spoil(b []byte) {
	b = b[:cap(b)]
	for i := range b {
		b[i] = 0xee
	}
}

func TestResultsShareNoMemory(t *testing.T) {
	v := spare("abcd")
	list := []api.Chunk{{Type: 4, Value: v}, {Type: 5, Value: v}}
	p := packed(3, list...)
	want := laid(p)
	b, _ := Put(p)
	again, _ := Put(p)
	spoil(v)
	spoil(again)
	list[0].Type = 9
	if !bytes.Equal(b, want) {
		t.Errorf("Put shares memory: %x", b)
	}
	q, _ := Get(b)
	other, _ := Get(b)
	spoil(b)
	spoil(other.Chunks[1].Value)
	other.Chunks[0].Flags = 1
	spoil(q.Chunks[0].Value)
	if string(q.Chunks[1].Value) != "abcd" || q.Chunks[0].Flags != 0 || q.Tag != 3 {
		t.Errorf("Get's results share memory: %v", q)
	}
}

func TestTwiceTheSame(t *testing.T) {
	const want = "0001 0002 00000003 24383217 0b000004 04000008 62656174"
	for range 3 {
		b, e := Put(example())
		p, f := Get(b)
		if !bytes.Equal(b, unhex(t, want)) || e != api.OK || !same(p, example()) || f != api.OK {
			t.Fatalf("Put, Get: %x, %d, %v, %d", b, e, p, f)
		}
		if _, e := Put(api.Packet{}); e != api.ErrForm {
			t.Fatalf("Put of nothing: %d", e)
		}
		if _, e := Get(b[:12]); e != api.ErrSum {
			t.Fatalf("Get of 12 bytes: %d", e)
		}
	}
}

// FuzzAnyArguments holds every call against the chapter's words, for whatever is given.
func FuzzAnyArguments(f *testing.F) {
	f.Add([]byte("\x00\x01\x00\x02\x00\x00\x00\x03\x24\x38\x32\x17\x0b\x00\x00\x04\x04\x00\x00\x08beat"), uint16(1), uint16(2), uint32(3), uint8(4), uint8(0))
	f.Add([]byte("\x13\x89\x13\x8a\x00\x00\x00\x00\x16\x09\x78\xc5\x01\x00\x00\x14\x00\x00\x00\x05\x00\x01\x00\x00\x00\x08\x00\x08\x00\x00\x00\x07"), uint16(9), uint16(1), uint32(0), uint8(1), uint8(1))
	f.Add([]byte("\x00\x01\x00\x02\x00\x00\x00\x03\x00\x00\x00\x00\x0e\x00\x00\x04\x0e\x00\x00\x03"), uint16(0), uint16(65535), uint32(7), uint8(14), uint8(40))
	f.Add([]byte(nil), uint16(0), uint16(0), uint32(0), uint8(2), uint8(33))
	f.Fuzz(func(t *testing.T, b []byte, from, to uint16, tag uint32, kind, count uint8) {
		was := string(b)
		gets(t, b)
		if len(b) >= 12 {
			gets(t, seal(b))
		}
		list := slices.Repeat([]api.Chunk{{Type: kind, Flags: count, Value: b}}, int(count)%36)
		puts(t, api.Packet{From: from, To: to, Tag: tag, Chunks: list})
		puts(t, api.Packet{From: from, To: to, Tag: tag, Chunks: append(list, kinds(11)...)})
		if got, want := Alone(kind), kind == 1 || kind == 2 || kind == 14; got != want {
			t.Fatalf("Alone(%d): %v", kind, got)
		}
		if string(b) != was {
			t.Fatalf("the argument changed")
		}
	})
}
