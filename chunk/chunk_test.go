package chunk

import (
	"bytes"
	"encoding/binary"
	"encoding/hex"
	"math/rand"
	"reflect"
	"slices"
	"strings"
	"testing"

	"trunkline/api"
)

// unhex returns the bytes that a text of hexadecimal digits and blanks says.
func unhex(t testing.TB, s string) []byte {
	t.Helper()
	b, err := hex.DecodeString(strings.ReplaceAll(s, " ", ""))
	if err != nil {
		t.Fatal(err)
	}
	return b
}

// made is a chunk of those parts.
func made(kind, flags uint8, value string) api.Chunk {
	return api.Chunk{Type: kind, Flags: flags, Value: []byte(value)}
}

// sameChunk holds two chunks against each other; nil and empty are the same.
func sameChunk(a, b api.Chunk) bool {
	return a.Type == b.Type && a.Flags == b.Flags && bytes.Equal(a.Value, b.Value)
}

func sameHello(a, b api.Hello) bool {
	same := bytes.Equal(a.Cookie, b.Cookie)
	a.Cookie, b.Cookie = nil, nil
	return same && reflect.DeepEqual(a, b)
}

func samePiece(a, b api.Piece) bool {
	same := bytes.Equal(a.Bytes, b.Bytes)
	a.Bytes, b.Bytes = nil, nil
	return same && reflect.DeepEqual(a, b)
}

func sameHeard(a, b api.Heard) bool {
	return a.Cum == b.Cum && a.Window == b.Window && slices.Equal(a.Gaps, b.Gaps) && slices.Equal(a.Dups, b.Dups)
}

func empty(c api.Chunk) bool {
	return c.Type == 0 && c.Flags == 0 && len(c.Value) == 0
}

// plainGet does what the chapter asks of Get, by the places of the bytes.
func plainGet(b []byte) ([]api.Chunk, api.Errno) {
	if len(b) > 4096 {
		return nil, api.ErrLarge
	}
	var list []api.Chunk
	for at := 0; at < len(b); {
		if len(list) >= 32 {
			return nil, api.ErrLarge
		}
		if len(b)-at < 4 {
			return nil, api.ErrShort
		}
		n := int(b[at+2])*256 + int(b[at+3])
		if n < 4 {
			return nil, api.ErrForm
		}
		behind := at + (n+3)/4*4
		if behind > len(b) {
			return nil, api.ErrShort
		}
		for _, x := range b[at+n : behind] {
			if x != 0 {
				return nil, api.ErrForm
			}
		}
		list = append(list, api.Chunk{Type: b[at], Flags: b[at+1], Value: b[at+4 : at+n]})
		at = behind
	}
	return list, api.OK
}

// plainHello reads an Init, or an InitAck, by the places of its bytes.
func plainHello(c api.Chunk) (h api.Hello, ok bool) {
	v := c.Value
	if c.Type != 1 && c.Type != 2 || c.Flags != 0 || len(v) < 16 {
		return h, false
	}
	n := binary.BigEndian
	h = api.Hello{Tag: n.Uint32(v), Window: n.Uint32(v[4:]), Out: n.Uint16(v[8:]), In: n.Uint16(v[10:]), TSN: n.Uint32(v[12:])}
	if h.Tag == 0 || h.Out == 0 || h.In == 0 {
		return h, false
	}
	if c.Type == 1 {
		return h, len(v) == 16
	}
	if len(v) < 20 || v[16] != 0 || v[17] != 7 {
		return h, false
	}
	size := int(n.Uint16(v[18:])) - 4
	if size < 0 || size > 256 || len(v) != 20+(size+3)/4*4 {
		return h, false
	}
	h.Cookie = v[20 : 20+size]
	return h, string(v[20+size:]) == strings.Repeat("\x00", len(v)-20-size)
}

// plainPiece reads a Data by the places of its bytes.
func plainPiece(c api.Chunk) (p api.Piece, ok bool) {
	v := c.Value
	if c.Type != 0 || c.Flags > 7 || len(v) < 13 || len(v) > 12+256 {
		return p, false
	}
	n := binary.BigEndian
	p = api.Piece{TSN: n.Uint32(v), Stream: n.Uint16(v[4:]), Seq: n.Uint16(v[6:]), Bytes: v[12:]}
	p.Unordered, p.Begin, p.End = c.Flags>>2&1 == 1, c.Flags>>1&1 == 1, c.Flags&1 == 1
	return p, n.Uint32(v[8:]) == 46 && p.Stream < 8
}

// plainHeard reads a Sack by the places of its bytes.
func plainHeard(c api.Chunk) (h api.Heard, ok bool) {
	v := c.Value
	if c.Type != 3 || c.Flags != 0 || len(v) < 12 {
		return h, false
	}
	n := binary.BigEndian
	h = api.Heard{Cum: n.Uint32(v), Window: n.Uint32(v[4:])}
	gaps, dups := int(n.Uint16(v[8:])), int(n.Uint16(v[10:]))
	if gaps > 64 || dups > 64 || len(v) != 12+4*gaps+4*dups {
		return h, false
	}
	last := 0
	for i := range gaps {
		g := api.Gap{From: n.Uint16(v[12+4*i:]), To: n.Uint16(v[14+4*i:])}
		if int(g.From) < last+2 || g.To < g.From {
			return h, false
		}
		last = int(g.To)
		h.Gaps = append(h.Gaps, g)
	}
	for i := range dups {
		h.Dups = append(h.Dups, n.Uint32(v[12+4*gaps+4*i:]))
	}
	return h, true
}

// readsAs holds all that is read from a chunk against the plain ways, and against the chunk that it makes again.
func readsAs(t *testing.T, c api.Chunk) {
	t.Helper()
	h, e := ToHello(c)
	if want, ok := plainHello(c); ok != (e == api.OK) || ok && !sameHello(h, want) {
		t.Fatalf("ToHello(%x): %v, %d, want %v, %v", c, h, e, want, ok)
	} else if again, _ := FromHello(h, c.Type == api.InitAck); ok && !sameChunk(again, c) {
		t.Fatalf("FromHello of what %x says: %x", c, again)
	} else if !ok && (e != api.ErrForm || !sameHello(h, api.Hello{})) {
		t.Fatalf("ToHello(%x): %v, %d, want nothing, ErrForm", c, h, e)
	}
	p, e := ToPiece(c)
	if want, ok := plainPiece(c); ok != (e == api.OK) || ok && !samePiece(p, want) {
		t.Fatalf("ToPiece(%x): %v, %d, want %v, %v", c, p, e, want, ok)
	} else if again, _ := FromPiece(p); ok && !sameChunk(again, c) {
		t.Fatalf("FromPiece of what %x says: %x", c, again)
	} else if !ok && (e != api.ErrForm || !samePiece(p, api.Piece{})) {
		t.Fatalf("ToPiece(%x): %v, %d, want nothing, ErrForm", c, p, e)
	}
	s, e := ToHeard(c)
	if want, ok := plainHeard(c); ok != (e == api.OK) || ok && !sameHeard(s, want) {
		t.Fatalf("ToHeard(%x): %v, %d, want %v, %v", c, s, e, want, ok)
	} else if again, _ := FromHeard(s); ok && !sameChunk(again, c) {
		t.Fatalf("FromHeard of what %x says: %x", c, again)
	} else if !ok && (e != api.ErrForm || !sameHeard(s, api.Heard{})) {
		t.Fatalf("ToHeard(%x): %v, %d, want nothing, ErrForm", c, s, e)
	}
}

// readsAllNear holds what is read from the chunk, and from all that differ from it by a byte, by its end or by its head, against the plain ways.
func readsAllNear(t *testing.T, c api.Chunk) {
	t.Helper()
	for i := range 256 {
		readsAs(t, api.Chunk{Type: uint8(i), Flags: c.Flags, Value: c.Value})
		readsAs(t, api.Chunk{Type: c.Type, Flags: uint8(i), Value: c.Value})
	}
	for n := range len(c.Value) {
		readsAs(t, api.Chunk{Type: c.Type, Flags: c.Flags, Value: c.Value[:n]})
	}
	for n := range 9 {
		readsAs(t, api.Chunk{Type: c.Type, Flags: c.Flags, Value: append(slices.Clone(c.Value), make([]byte, n)...)})
		readsAs(t, api.Chunk{Type: c.Type, Flags: c.Flags, Value: append(slices.Clone(c.Value), bytes.Repeat([]byte{1}, n)...)})
	}
	for at := range min(len(c.Value), 40) {
		for x := range 256 {
			v := slices.Clone(c.Value)
			v[at] = byte(x)
			readsAs(t, api.Chunk{Type: c.Type, Flags: c.Flags, Value: v})
		}
	}
}

func TestExample(t *testing.T) {
	b, e := Put(made(api.CookieEcho, 1, "abc"), made(api.CookieAck, 0, ""))
	if want := unhex(t, "0a 01 00 07 61 62 63 00 0b 00 00 04"); !bytes.Equal(b, want) || e != api.OK {
		t.Errorf("Put: %x, %d", b, e)
	}
	if l, e := Get(unhex(t, "0b 00 00")); len(l) != 0 || e != api.ErrShort {
		t.Errorf("Get(0b 00 00): %v, %d", l, e)
	}
	if l, e := Get(unhex(t, "0b 00 00 03")); len(l) != 0 || e != api.ErrForm {
		t.Errorf("Get(0b 00 00 03): %v, %d", l, e)
	}
	if c, e := FromPiece(api.Piece{Unordered: true, End: true, Bytes: []byte("x")}); c.Flags != 5 || e != api.OK {
		t.Errorf("FromPiece: %v, %d", c, e)
	}
	if skip, tell := Action(192); !skip || !tell {
		t.Errorf("Action(192): %v, %v", skip, tell)
	}
}

func TestPut(t *testing.T) {
	for _, x := range []struct {
		list []api.Chunk
		want string
	}{
		{nil, ""},
		{[]api.Chunk{}, ""},
		{[]api.Chunk{{}}, "00000004"},
		{[]api.Chunk{made(255, 254, "\xfd")}, "fffe0005 fd000000"},
		{[]api.Chunk{made(1, 2, "ab")}, "01020006 61620000"},
		{[]api.Chunk{made(1, 2, "abc")}, "01020007 61626300"},
		{[]api.Chunk{made(1, 2, "abcd")}, "01020008 61626364"},
		{[]api.Chunk{made(1, 2, "abcde")}, "01020009 61626364 65000000"},
		{[]api.Chunk{made(7, 0, "\x00"), {Type: 8}, made(9, 1, "\xff\xff\xff\xff")}, "07000005 00000000 08000004 09010008 ffffffff"},
	} {
		if b, e := Put(x.list...); !bytes.Equal(b, unhex(t, x.want)) || e != api.OK {
			t.Errorf("Put(%v): %x, %d, want %s", x.list, b, e, x.want)
		}
	}
}

func TestPutOfEveryLength(t *testing.T) {
	for n := range 4093 {
		v := bytes.Repeat([]byte{0xa5}, n)
		want := append([]byte{3, 4, byte((n + 4) / 256), byte((n + 4) % 256)}, v...)
		for len(want)%4 != 0 {
			want = append(want, 0)
		}
		if b, e := Put(api.Chunk{Type: 3, Flags: 4, Value: v}); !bytes.Equal(b, want) || e != api.OK {
			t.Fatalf("Put of a Value of %d bytes: %d bytes, %d", n, len(b), e)
		}
	}
}

func TestPutTooMuch(t *testing.T) {
	for _, x := range []struct {
		name string
		list []api.Chunk
		size int // of the result; -1 if there is none
	}{
		{"32 chunks", make([]api.Chunk, 32), 128},
		{"33 chunks", make([]api.Chunk, 33), -1},
		{"very many chunks", make([]api.Chunk, 100000), -1},
		{"4096 bytes", []api.Chunk{{Value: make([]byte, 4092)}}, 4096},
		{"4096 bytes with their zeros", []api.Chunk{{Value: make([]byte, 4089)}}, 4096},
		{"4097 bytes", []api.Chunk{{Value: make([]byte, 4093)}}, -1},
		{"4096 bytes of two", []api.Chunk{{Value: make([]byte, 4088)}, {}}, 4096},
		{"4096 bytes of two, with their zeros", []api.Chunk{{Value: make([]byte, 2045)}, {Value: make([]byte, 2037)}}, 4096},
		{"4100 bytes of two, with their zeros", []api.Chunk{{Value: make([]byte, 2045)}, {Value: make([]byte, 2041)}}, -1},
		{"4100 bytes of two", []api.Chunk{{Value: make([]byte, 4089)}, {}}, -1},
		{"4096 bytes of 32", slices.Repeat([]api.Chunk{{Value: make([]byte, 124)}}, 32), 4096},
		{"4224 bytes of 32", slices.Repeat([]api.Chunk{{Value: make([]byte, 125)}}, 32), -1},
		{"a length that comes round to 4", []api.Chunk{{Value: make([]byte, 65536)}}, -1},
		{"far too much", []api.Chunk{{}, {Value: make([]byte, 1<<20)}, {}}, -1},
	} {
		want := api.OK
		if x.size < 0 {
			want = api.ErrLarge
		}
		if b, e := Put(x.list...); e != want || len(b) != max(0, x.size) {
			t.Errorf("Put of %s: %d bytes, %d, want %d, %d", x.name, len(b), e, x.size, want)
		}
	}
}

func TestGet(t *testing.T) {
	for _, x := range []struct {
		bytes string
		want  []api.Chunk
		e     api.Errno
	}{
		{"", nil, api.OK},
		{"00000004", []api.Chunk{{}}, api.OK},
		{"fffe0005 fd000000", []api.Chunk{made(255, 254, "\xfd")}, api.OK},
		{"01020008 61626364 03000006 ffff0000 0b000004", []api.Chunk{made(1, 2, "abcd"), made(3, 0, "\xff\xff"), made(11, 0, "")}, api.OK},
		{"00", nil, api.ErrShort},
		{"000000", nil, api.ErrShort},
		{"00000000", nil, api.ErrForm},
		{"00000003", nil, api.ErrForm},
		{"ffff0003 00000000", nil, api.ErrForm},
		{"00000005", nil, api.ErrShort},
		{"00000005 61", nil, api.ErrShort},
		{"00000005 610000", nil, api.ErrShort},
		{"00000005 610001", nil, api.ErrShort},
		{"00000005 61000000", []api.Chunk{made(0, 0, "a")}, api.OK},
		{"00000005 61010000", nil, api.ErrForm},
		{"00000005 61000100", nil, api.ErrForm},
		{"00000005 61000001", nil, api.ErrForm},
		{"00000007 61626301", nil, api.ErrForm},
		{"0000ffff", nil, api.ErrShort},
		{"0000ffff 00000000", nil, api.ErrShort},
		{"00000104 00000000", nil, api.ErrShort},
		{"00000004 00000003", nil, api.ErrForm},
		{"00000004 000000", nil, api.ErrShort},
		{"00000005 61000001 00", nil, api.ErrForm},
		{"00000003 00", nil, api.ErrForm},
	} {
		l, e := Get(unhex(t, x.bytes))
		if !slices.EqualFunc(l, x.want, sameChunk) || e != x.e {
			t.Errorf("Get(%s): %v, %d, want %v, %d", x.bytes, l, e, x.want, x.e)
		}
	}
}

func TestGetOfEveryBeginning(t *testing.T) {
	b, _ := Put(made(1, 2, "abcd"), made(3, 4, ""), made(5, 6, "abcde"), made(7, 8, "ab"))
	for n := range b {
		l, e := Get(b[:n])
		want, there := api.ErrShort, 0
		if n == 0 || n == 8 || n == 12 || n == 24 {
			want, there = api.OK, map[int]int{8: 1, 12: 2, 24: 3}[n]
		}
		if e != want || len(l) != there {
			t.Errorf("Get of the first %d bytes: %v, %d, want %d chunks, %d", n, l, e, there, want)
		}
	}
}

func TestGetTooMuch(t *testing.T) {
	full := bytes.Repeat(unhex(t, "0b000004"), 32)
	for _, x := range []struct {
		name  string
		b     []byte
		count int
		e     api.Errno
	}{
		{"32 chunks", full, 32, api.OK},
		{"33 chunks", append(slices.Clone(full), 11, 0, 0, 4), 0, api.ErrLarge},
		{"32 chunks and a byte", append(slices.Clone(full), 11), 0, api.ErrLarge},
		{"32 chunks and a length that is none", append(slices.Clone(full), 0, 0, 0, 3), 0, api.ErrLarge},
		{"32 chunks, the last of no sound length", append(slices.Clone(full[:124]), 0, 0, 0, 3, 0), 0, api.ErrForm},
		{"32 chunks, the first of no sound length", append([]byte{0, 0, 0, 3}, full...), 0, api.ErrForm},
		{"4096 bytes", append([]byte{5, 0, 16, 0}, make([]byte, 4092)...), 1, api.OK},
		{"4096 bytes with a zero", append([]byte{5, 0, 15, 255}, make([]byte, 4092)...), 1, api.OK},
		{"4097 bytes", append([]byte{5, 0, 16, 1}, make([]byte, 4093)...), 0, api.ErrLarge},
		{"4100 bytes", append([]byte{5, 0, 16, 4}, make([]byte, 4096)...), 0, api.ErrLarge},
		{"4097 bytes of no sound length", make([]byte, 4097), 0, api.ErrLarge},
		{"4096 bytes of no sound length", make([]byte, 4096), 0, api.ErrForm},
		{"a length beyond 4096", append([]byte{5, 0, 16, 1}, make([]byte, 4092)...), 0, api.ErrShort},
		{"1024 chunks", bytes.Repeat(unhex(t, "0b000004"), 1024), 0, api.ErrLarge},
		{"1025 chunks", bytes.Repeat(unhex(t, "0b000004"), 1025), 0, api.ErrLarge},
	} {
		if l, e := Get(x.b); len(l) != x.count || e != x.e {
			t.Errorf("Get of %s: %d chunks, %d, want %d, %d", x.name, len(l), e, x.count, x.e)
		}
	}
}

func TestGetReturnsWhatWasPut(t *testing.T) {
	r := rand.New(rand.NewSource(7))
	for range 2000 {
		list := make([]api.Chunk, r.Intn(33))
		for i := range list {
			v := make([]byte, r.Intn(120))
			r.Read(v)
			list[i] = api.Chunk{Type: uint8(r.Intn(256)), Flags: uint8(r.Intn(256)), Value: v}
		}
		b, e := Put(list...)
		if e != api.OK || len(b)%4 != 0 {
			t.Fatalf("Put: %d bytes, %d", len(b), e)
		}
		l, e := Get(b)
		if e != api.OK || !slices.EqualFunc(l, list, sameChunk) {
			t.Fatalf("Get of what was put: %v, %d, want %v", l, e, list)
		}
	}
}

func TestGetOfBytesThatChange(t *testing.T) {
	r := rand.New(rand.NewSource(8))
	whole, _ := Put(made(1, 2, "abcd"), made(3, 4, ""), made(5, 6, "abcde"), made(7, 8, "ab"))
	for range 200000 {
		b := slices.Clone(whole[:r.Intn(len(whole)+1)])
		for range r.Intn(4) {
			if len(b) > 0 {
				b[r.Intn(len(b))] = byte(r.Intn(9))
			}
		}
		l, e := Get(b)
		if want, we := plainGet(b); e != we || !slices.EqualFunc(l, want, sameChunk) {
			t.Fatalf("Get(%x): %v, %d, want %v, %d", b, l, e, want, we)
		}
	}
}

func TestHello(t *testing.T) {
	for _, x := range []struct {
		h    api.Hello
		ack  bool
		want string
	}{
		{api.Hello{Tag: 0x01020304, Window: 0x05060708, Out: 0x090a, In: 0x0b0c, TSN: 0x0d0e0f10}, false, "01020304 05060708 090a0b0c 0d0e0f10"},
		{api.Hello{Tag: 0x01020304, Window: 0x05060708, Out: 0x090a, In: 0x0b0c, TSN: 0x0d0e0f10}, true, "01020304 05060708 090a0b0c 0d0e0f10 00070004"},
		{api.Hello{Tag: 1, Out: 1, In: 1}, false, "00000001 00000000 00010001 00000000"},
		{api.Hello{Tag: 1, Out: 1, In: 1, Cookie: []byte{}}, false, "00000001 00000000 00010001 00000000"},
		{api.Hello{Tag: 1 << 31, Window: 1 << 31, Out: 1 << 15, In: 1 << 15, TSN: 1 << 31, Cookie: []byte("a")}, true, "80000000 80000000 80008000 80000000 00070005 61000000"},
		{api.Hello{Tag: 0xffffffff, Window: 0xffffffff, Out: 0xffff, In: 0xffff, TSN: 0xffffffff, Cookie: []byte("crumb")}, true, "ffffffff ffffffff ffffffff ffffffff 00070009 6372756d 62000000"},
		{api.Hello{Tag: 5, Window: 6, Out: 1, In: 2, TSN: 7, Cookie: []byte("abcd")}, true, "00000005 00000006 00010002 00000007 00070008 61626364"},
		{api.Hello{Tag: 5, Window: 6, Out: 1, In: 2, TSN: 7, Cookie: []byte("ab\x00")}, true, "00000005 00000006 00010002 00000007 00070007 61620000"},
	} {
		want := api.Chunk{Type: 1, Value: unhex(t, x.want)}
		if x.ack {
			want.Type = 2
		}
		c, e := FromHello(x.h, x.ack)
		if !sameChunk(c, want) || e != api.OK {
			t.Errorf("FromHello(%v, %v): %x, %d, want %x", x.h, x.ack, c, e, want)
		}
		if h, e := ToHello(want); !sameHello(h, x.h) || e != api.OK {
			t.Errorf("ToHello(%x): %v, %d, want %v", want, h, e, x.h)
		}
	}
}

func TestFromHelloOfWrong(t *testing.T) {
	ok := api.Hello{Tag: 1, Out: 1, In: 1}
	crumb := func(n int) func(h *api.Hello) {
		return func(h *api.Hello) { h.Cookie = make([]byte, n) }
	}
	for _, x := range []struct {
		name   string
		change func(h *api.Hello)
		init   api.Errno
		ack    api.Errno
	}{
		{"nothing", func(h *api.Hello) {}, api.OK, api.OK},
		{"no Tag", func(h *api.Hello) { h.Tag = 0 }, api.ErrForm, api.ErrForm},
		{"no Out", func(h *api.Hello) { h.Out = 0 }, api.ErrForm, api.ErrForm},
		{"no In", func(h *api.Hello) { h.In = 0 }, api.ErrForm, api.ErrForm},
		{"nothing at all", func(h *api.Hello) { *h = api.Hello{} }, api.ErrForm, api.ErrForm},
		{"a Cookie of 1", crumb(1), api.ErrForm, api.OK},
		{"a Cookie of 256", crumb(256), api.ErrForm, api.OK},
		{"a Cookie of 257", crumb(257), api.ErrForm, api.ErrLarge},
		{"a Cookie of 65536", crumb(65536), api.ErrForm, api.ErrLarge},
		{"no Tag and a Cookie of 257", func(h *api.Hello) { h.Tag = 0; crumb(257)(h) }, api.ErrForm, api.ErrForm},
		{"no Out and a Cookie of 257", func(h *api.Hello) { h.Out = 0; crumb(257)(h) }, api.ErrForm, api.ErrForm},
		{"no In and a Cookie of 257", func(h *api.Hello) { h.In = 0; crumb(257)(h) }, api.ErrForm, api.ErrForm},
	} {
		h := ok
		x.change(&h)
		if c, e := FromHello(h, false); e != x.init || e != api.OK && !empty(c) {
			t.Errorf("FromHello, Init with %s: %v, %d, want %d", x.name, c, e, x.init)
		}
		if c, e := FromHello(h, true); e != x.ack || e != api.OK && !empty(c) {
			t.Errorf("FromHello, InitAck with %s: %v, %d, want %d", x.name, c, e, x.ack)
		}
	}
}

func TestToHelloOfWrong(t *testing.T) {
	for _, x := range []struct {
		name  string
		kind  uint8
		flags uint8
		value string
	}{
		{"of another type", 3, 0, "00000001 00000000 00010001 00000000"},
		{"of no type", 0, 0, "00000001 00000000 00010001 00000000"},
		{"Init with Flags", 1, 1, "00000001 00000000 00010001 00000000"},
		{"InitAck with Flags", 2, 128, "00000001 00000000 00010001 00000000 00070004"},
		{"Init of nothing", 1, 0, ""},
		{"Init with a byte too few", 1, 0, "00000001 00000000 00010001 000000"},
		{"Init with a byte too many", 1, 0, "00000001 00000000 00010001 00000000 00"},
		{"Init with a cookie", 1, 0, "00000001 00000000 00010001 00000000 00070005 61000000"},
		{"Init with an empty cookie", 1, 0, "00000001 00000000 00010001 00000000 00070004"},
		{"Init without Tag", 1, 0, "00000000 00000000 00010001 00000000"},
		{"Init without Out", 1, 0, "00000001 00000000 00000001 00000000"},
		{"Init without In", 1, 0, "00000001 00000000 00010000 00000000"},
		{"InitAck of nothing", 2, 0, ""},
		{"InitAck without a cookie", 2, 0, "00000001 00000000 00010001 00000000"},
		{"InitAck with a part of a cookie", 2, 0, "00000001 00000000 00010001 00000000 000700"},
		{"InitAck without Tag", 2, 0, "00000000 00000000 00010001 00000000 00070004"},
		{"InitAck without Out", 2, 0, "00000001 00000000 00000001 00000000 00070004"},
		{"InitAck without In", 2, 0, "00000001 00000000 00010000 00000000 00070004"},
		{"InitAck with another number", 2, 0, "00000001 00000000 00010001 00000000 00080004"},
		{"InitAck with a greater number", 2, 0, "00000001 00000000 00010001 00000000 01070004"},
		{"InitAck with a length of 3", 2, 0, "00000001 00000000 00010001 00000000 00070003"},
		{"InitAck with a length of 0", 2, 0, "00000001 00000000 00010001 00000000 00070000"},
		{"InitAck with a length of 3 and a byte", 2, 0, "00000001 00000000 00010001 00000000 00070003 00"},
		{"InitAck with a cookie that ends early", 2, 0, "00000001 00000000 00010001 00000000 00070009 61626364"},
		{"InitAck without its zeros", 2, 0, "00000001 00000000 00010001 00000000 00070005 61"},
		{"InitAck without its last zero", 2, 0, "00000001 00000000 00010001 00000000 00070005 610000"},
		{"InitAck with something else for zeros", 2, 0, "00000001 00000000 00010001 00000000 00070005 61000001"},
		{"InitAck with something behind", 2, 0, "00000001 00000000 00010001 00000000 00070005 61000000 00000000"},
		{"InitAck with two cookies", 2, 0, "00000001 00000000 00010001 00000000 00070005 61000000 00070005 61000000"},
		{"InitAck with a cookie of 257", 2, 0, "00000001 00000000 00010001 00000000 00070105" + strings.Repeat("61", 257) + "000000"},
		{"InitAck with a cookie of 65531", 2, 0, "00000001 00000000 00010001 00000000 0007ffff" + strings.Repeat("61", 65531) + "00"},
	} {
		c := api.Chunk{Type: x.kind, Flags: x.flags, Value: unhex(t, x.value)}
		if h, e := ToHello(c); !sameHello(h, api.Hello{}) || e != api.ErrForm {
			t.Errorf("ToHello, %s: %v, %d", x.name, h, e)
		}
	}
}

func TestCookieOfEveryLength(t *testing.T) {
	for n := range 257 {
		h := api.Hello{Tag: 1, Window: 2, Out: 3, In: 4, TSN: 5, Cookie: bytes.Repeat([]byte{0xff}, n)}
		c, e := FromHello(h, true)
		if len(c.Value) != 20+(n+3)/4*4 || e != api.OK {
			t.Fatalf("FromHello with a Cookie of %d: %d bytes, %d", n, len(c.Value), e)
		}
		if x, e := ToHello(c); !sameHello(x, h) || e != api.OK {
			t.Fatalf("ToHello with a Cookie of %d: %v, %d", n, x, e)
		}
	}
}

func TestPiece(t *testing.T) {
	for _, x := range []struct {
		p     api.Piece
		flags uint8
		want  string
	}{
		{api.Piece{Bytes: []byte("a")}, 0, "00000000 00000000 0000002e 61"},
		{api.Piece{TSN: 0x01020304, Stream: 5, Seq: 0x0607, Bytes: []byte("abcd")}, 0, "01020304 00050607 0000002e 61626364"},
		{api.Piece{TSN: 0xffffffff, Stream: 7, Seq: 0xffff, End: true, Bytes: []byte("abcde")}, 1, "ffffffff 0007ffff 0000002e 61626364 65"},
		{api.Piece{TSN: 1 << 31, Seq: 1 << 15, Begin: true, Bytes: []byte{0}}, 2, "80000000 00008000 0000002e 00"},
		{api.Piece{Begin: true, End: true, Bytes: []byte("a")}, 3, "00000000 00000000 0000002e 61"},
		{api.Piece{Unordered: true, Bytes: []byte("a")}, 4, "00000000 00000000 0000002e 61"},
		{api.Piece{Unordered: true, End: true, Bytes: []byte("a")}, 5, "00000000 00000000 0000002e 61"},
		{api.Piece{Unordered: true, Begin: true, Bytes: []byte("a")}, 6, "00000000 00000000 0000002e 61"},
		{api.Piece{Unordered: true, Begin: true, End: true, Bytes: []byte("a")}, 7, "00000000 00000000 0000002e 61"},
		{api.Piece{Bytes: bytes.Repeat([]byte("a"), 256)}, 0, "00000000 00000000 0000002e" + strings.Repeat("61", 256)},
	} {
		want := api.Chunk{Flags: x.flags, Value: unhex(t, x.want)}
		if c, e := FromPiece(x.p); !sameChunk(c, want) || e != api.OK {
			t.Errorf("FromPiece(%v): %x, %d, want %x", x.p, c, e, want)
		}
		if p, e := ToPiece(want); !samePiece(p, x.p) || e != api.OK {
			t.Errorf("ToPiece(%x): %v, %d, want %v", want, p, e, x.p)
		}
	}
}

func TestFromPieceOfWrong(t *testing.T) {
	for _, x := range []struct {
		stream uint16
		size   int
		e      api.Errno
	}{
		{0, 0, api.ErrForm},
		{0, 1, api.OK},
		{7, 256, api.OK},
		{8, 1, api.ErrForm},
		{256, 1, api.ErrForm},
		{65535, 1, api.ErrForm},
		{8, 0, api.ErrForm},
		{7, 257, api.ErrLarge},
		{0, 1 << 20, api.ErrLarge},
		{8, 257, api.ErrForm},
	} {
		c, e := FromPiece(api.Piece{TSN: 1, Stream: x.stream, Begin: true, Bytes: make([]byte, x.size)})
		if e != x.e || e != api.OK && !empty(c) {
			t.Errorf("FromPiece on stream %d of %d bytes: %v, %d, want %d", x.stream, x.size, c, e, x.e)
		}
	}
}

func TestToPieceOfWrong(t *testing.T) {
	for _, x := range []struct {
		name  string
		kind  uint8
		flags uint8
		value string
	}{
		{"of another type", 1, 0, "00000000 00000000 0000002e 61"},
		{"of a type beyond all", 255, 0, "00000000 00000000 0000002e 61"},
		{"with Flags that are none", 0, 8, "00000000 00000000 0000002e 61"},
		{"with the highest flag too", 0, 128 + 3, "00000000 00000000 0000002e 61"},
		{"of nothing", 0, 0, ""},
		{"with half a head", 0, 0, "00000000 0000"},
		{"without bytes", 0, 0, "00000000 00000000 0000002e"},
		{"with another number", 0, 0, "00000000 00000000 0000002f 61"},
		{"with a greater number", 0, 0, "00000000 00000000 0100002e 61"},
		{"of stream 8", 0, 0, "00000000 00080000 0000002e 61"},
		{"of stream 256", 0, 0, "00000000 01000000 0000002e 61"},
		{"of 257 bytes", 0, 0, "00000000 00000000 0000002e" + strings.Repeat("61", 257)},
		{"of 65536 bytes", 0, 0, "00000000 00000000 0000002e" + strings.Repeat("61", 65536)},
	} {
		c := api.Chunk{Type: x.kind, Flags: x.flags, Value: unhex(t, x.value)}
		if p, e := ToPiece(c); !samePiece(p, api.Piece{}) || e != api.ErrForm {
			t.Errorf("ToPiece, %s: %v, %d", x.name, p, e)
		}
	}
}

// gaps is a list of that many Gaps of one, as near as they may be.
func gaps(n int) []api.Gap {
	var list []api.Gap
	for i := range n {
		list = append(list, api.Gap{From: uint16(2 + 2*i), To: uint16(2 + 2*i)})
	}
	return list
}

func TestHeard(t *testing.T) {
	for _, x := range []struct {
		h    api.Heard
		want string
	}{
		{api.Heard{}, "00000000 00000000 00000000"},
		{api.Heard{Cum: 0x01020304, Window: 0x05060708}, "01020304 05060708 00000000"},
		{api.Heard{Cum: 0xffffffff, Window: 0xffffffff, Gaps: []api.Gap{{From: 2, To: 2}}}, "ffffffff ffffffff 00010000 00020002"},
		{api.Heard{Gaps: []api.Gap{{From: 2, To: 65535}}}, "00000000 00000000 00010000 0002ffff"},
		{api.Heard{Gaps: []api.Gap{{From: 65535, To: 65535}}}, "00000000 00000000 00010000 ffffffff"},
		{api.Heard{Cum: 9, Gaps: []api.Gap{{From: 2, To: 3}, {From: 5, To: 5}}, Dups: []uint32{4}}, "00000009 00000000 00020001 00020003 00050005 00000004"},
		{api.Heard{Cum: 9, Gaps: []api.Gap{{From: 256, To: 513}, {From: 1000, To: 1001}}}, "00000009 00000000 00020000 01000201 03e803e9"},
		{api.Heard{Dups: []uint32{7, 0xffffffff, 0, 7}}, "00000000 00000000 00000004 00000007 ffffffff 00000000 00000007"},
	} {
		want := api.Chunk{Type: 3, Value: unhex(t, x.want)}
		if c, e := FromHeard(x.h); !sameChunk(c, want) || e != api.OK {
			t.Errorf("FromHeard(%v): %x, %d, want %x", x.h, c, e, want)
		}
		if h, e := ToHeard(want); !sameHeard(h, x.h) || e != api.OK {
			t.Errorf("ToHeard(%x): %v, %d, want %v", want, h, e, x.h)
		}
	}
}

func TestFromHeardOfWrong(t *testing.T) {
	apart := []api.Gap{{From: 2, To: 3}, {From: 4, To: 5}}
	for _, x := range []struct {
		name string
		h    api.Heard
		e    api.Errno
	}{
		{"a first From of 0", api.Heard{Gaps: []api.Gap{{From: 0, To: 5}}}, api.ErrForm},
		{"a first From of 1", api.Heard{Gaps: []api.Gap{{From: 1, To: 5}}}, api.ErrForm},
		{"an empty Gap", api.Heard{Gaps: []api.Gap{{}}}, api.ErrForm},
		{"a first From of 2", api.Heard{Gaps: []api.Gap{{From: 2, To: 5}}}, api.OK},
		{"a From above its To", api.Heard{Gaps: []api.Gap{{From: 6, To: 5}}}, api.ErrForm},
		{"a second From above its To", api.Heard{Gaps: []api.Gap{{From: 2, To: 2}, {From: 6, To: 5}}}, api.ErrForm},
		{"Gaps that touch", api.Heard{Gaps: apart}, api.ErrForm},
		{"Gaps that overlap", api.Heard{Gaps: []api.Gap{{From: 2, To: 9}, {From: 9, To: 12}}}, api.ErrForm},
		{"a Gap within another", api.Heard{Gaps: []api.Gap{{From: 2, To: 9}, {From: 4, To: 5}}}, api.ErrForm},
		{"Gaps that descend", api.Heard{Gaps: []api.Gap{{From: 8, To: 9}, {From: 4, To: 5}}}, api.ErrForm},
		{"Gaps that are the same", api.Heard{Gaps: []api.Gap{{From: 4, To: 5}, {From: 4, To: 5}}}, api.ErrForm},
		{"a Gap behind the greatest To", api.Heard{Gaps: []api.Gap{{From: 4, To: 65535}, {From: 65535, To: 65535}}}, api.ErrForm},
		{"Gaps that come round", api.Heard{Gaps: []api.Gap{{From: 4, To: 65535}, {From: 2, To: 2}}}, api.ErrForm},
		{"Gaps that come round by one", api.Heard{Gaps: []api.Gap{{From: 4, To: 65534}, {From: 0, To: 2}}}, api.ErrForm},
		{"64 Gaps and 64 Dups", api.Heard{Gaps: gaps(64), Dups: make([]uint32, 64)}, api.OK},
		{"65 Gaps", api.Heard{Gaps: gaps(65)}, api.ErrLarge},
		{"65 Dups", api.Heard{Dups: make([]uint32, 65)}, api.ErrLarge},
		{"as many Gaps as there can be", api.Heard{Gaps: gaps(32767)}, api.ErrLarge},
		{"65536 Dups", api.Heard{Dups: make([]uint32, 65536)}, api.ErrLarge},
		{"65536 empty Gaps", api.Heard{Gaps: make([]api.Gap, 65536)}, api.ErrForm},
		{"65 Gaps, the last of which touches", api.Heard{Gaps: append(gaps(64), api.Gap{From: 129, To: 140})}, api.ErrForm},
		{"65 Dups and Gaps that touch", api.Heard{Gaps: apart, Dups: make([]uint32, 65)}, api.ErrForm},
	} {
		if c, e := FromHeard(x.h); e != x.e || e != api.OK && !empty(c) {
			t.Errorf("FromHeard with %s: %v, %d, want %d", x.name, c, e, x.e)
		}
	}
}

// sack is the bytes of a Sack that claims those numbers of Gaps and Dups, and has that many fours of bytes for them.
func sack(gapCount, dupCount uint16, list []api.Gap, dups int) []byte {
	b := make([]byte, 8)
	b = binary.BigEndian.AppendUint16(b, gapCount)
	b = binary.BigEndian.AppendUint16(b, dupCount)
	for _, g := range list {
		b = binary.BigEndian.AppendUint16(b, g.From)
		b = binary.BigEndian.AppendUint16(b, g.To)
	}
	return append(b, make([]byte, 4*dups)...)
}

func TestToHeardOfWrong(t *testing.T) {
	one := []api.Gap{{From: 2, To: 2}}
	for _, x := range []struct {
		name  string
		kind  uint8
		flags uint8
		value []byte
	}{
		{"of another type", 4, 0, sack(0, 0, nil, 0)},
		{"with Flags", 3, 1, sack(0, 0, nil, 0)},
		{"of nothing", 3, 0, nil},
		{"with a byte too few", 3, 0, sack(0, 0, nil, 0)[:11]},
		{"with a byte too many", 3, 0, append(sack(0, 0, nil, 0), 0)},
		{"without its Gap", 3, 0, sack(1, 0, nil, 0)},
		{"without its Dup", 3, 0, sack(0, 1, nil, 0)},
		{"with a Gap more", 3, 0, sack(0, 0, one, 0)},
		{"with a Dup more", 3, 0, sack(1, 0, one, 1)},
		{"with a Dup for a Gap", 3, 0, sack(1, 0, nil, 1)},
		{"with a Gap from 1 on", 3, 0, sack(1, 0, []api.Gap{{From: 1, To: 2}}, 0)},
		{"with a From above its To", 3, 0, sack(1, 0, []api.Gap{{From: 3, To: 2}}, 0)},
		{"with Gaps that touch", 3, 0, sack(2, 0, []api.Gap{{From: 2, To: 3}, {From: 4, To: 5}}, 0)},
		{"with 65 Gaps", 3, 0, sack(65, 0, gaps(65), 0)},
		{"with 65 Dups", 3, 0, sack(0, 65, nil, 65)},
		{"with very many Dups", 3, 0, sack(0, 65535, nil, 65535)},
		{"that claims very many", 3, 0, sack(65535, 65535, nil, 0)},
	} {
		if h, e := ToHeard(api.Chunk{Type: x.kind, Flags: x.flags, Value: x.value}); !sameHeard(h, api.Heard{}) || e != api.ErrForm {
			t.Errorf("ToHeard, %s: %v, %d", x.name, h, e)
		}
	}
	if h, e := ToHeard(api.Chunk{Type: 3, Value: sack(64, 64, gaps(64), 64)}); len(h.Gaps) != 64 || len(h.Dups) != 64 || e != api.OK {
		t.Errorf("ToHeard of 64 and 64: %v, %d", h, e)
	}
}

func TestReadingAllNear(t *testing.T) {
	for _, c := range []api.Chunk{
		{},
		{Type: 1, Value: unhex(t, "00000001 00000000 00010001 00000000")},
		{Type: 1, Value: unhex(t, "01020304 05060708 090a0b0c 0d0e0f10")},
		{Type: 2, Value: unhex(t, "00000001 00000000 00010001 00000000 00070004")},
		{Type: 2, Value: unhex(t, "00000001 00000000 00010001 00000000 00070005 61000000")},
		{Type: 2, Value: unhex(t, "ffffffff ffffffff ffffffff ffffffff 00070009 6372756d 62000000")},
		{Type: 2, Value: unhex(t, "01020304 05060708 090a0b0c 0d0e0f10 00070104"+strings.Repeat("61", 256))},
		{Type: 0, Flags: 7, Value: unhex(t, "00000000 00000000 0000002e 61")},
		{Type: 0, Value: unhex(t, "01020304 00050607 0000002e 61626364 65")},
		{Type: 0, Value: unhex(t, "01020304 00050607 0000002e"+strings.Repeat("61", 256))},
		{Type: 3, Value: sack(0, 0, nil, 0)},
		{Type: 3, Value: sack(2, 1, []api.Gap{{From: 2, To: 3}, {From: 5, To: 5}}, 1)},
		{Type: 3, Value: sack(64, 64, gaps(64), 64)},
	} {
		readsAllNear(t, c)
	}
}

func TestAction(t *testing.T) {
	for kind := range 256 {
		skip, tell := Action(uint8(kind))
		if wantSkip, wantTell := kind >= 128, kind%128 >= 64; skip != wantSkip || tell != wantTell {
			t.Errorf("Action(%d): %v, %v", kind, skip, tell)
		}
	}
}

// spare returns the bytes of s with capacity left behind them, that nobody may write to.
func spare(s string) []byte {
	return append(make([]byte, 0, len(s)+64), s...)
}

// untouched tells whether b still is s, and nothing was written behind it.
func untouched(b []byte, s string) bool {
	return string(b) == s && string(b[len(b):cap(b)]) == strings.Repeat("\x00", cap(b)-len(b))
}

func TestArgumentsAreLeftAlone(t *testing.T) {
	v, w := spare("abc"), spare("de")
	list := append(make([]api.Chunk, 0, 8), api.Chunk{Type: 1, Value: v}, api.Chunk{Type: 2, Value: w})
	b, _ := Put(list...)
	if !untouched(v, "abc") || !untouched(w, "de") || list[0].Type != 1 || list[1].Type != 2 || !empty(list[:3][2]) {
		t.Errorf("Put changed its arguments")
	}
	bytes := spare(string(b))
	Get(bytes)
	if !untouched(bytes, string(b)) {
		t.Errorf("Get changed its argument")
	}
	h := api.Hello{Tag: 1, Out: 1, In: 1, Cookie: v}
	c, _ := FromHello(h, true)
	p, _ := FromPiece(api.Piece{Bytes: v})
	hand := append(make([]api.Gap, 0, 8), api.Gap{From: 2, To: 2})
	dups := append(make([]uint32, 0, 8), 9)
	s, _ := FromHeard(api.Heard{Gaps: hand, Dups: dups})
	if !untouched(v, "abc") || hand[0].From != 2 || hand[:2][1].From != 0 || dups[0] != 9 || dups[:2][1] != 0 {
		t.Errorf("a From changed its argument")
	}
	for _, x := range []api.Chunk{c, p, s} {
		value := spare(string(x.Value))
		y := api.Chunk{Type: x.Type, Flags: x.Flags, Value: value}
		ToHello(y)
		ToPiece(y)
		ToHeard(y)
		if !untouched(value, string(x.Value)) {
			t.Errorf("a To changed its argument %x", x)
		}
	}
}

// spoil writes over all that b can reach.
func spoil(b []byte) {
	b = b[:cap(b)]
	for i := range b {
		b[i] = 0xee
	}
}

func TestResultsShareNoMemory(t *testing.T) {
	v := spare("abcd")
	b, _ := Put(api.Chunk{Type: 1, Value: v}, api.Chunk{Type: 2, Value: v})
	spoil(v)
	if want := unhex(t, "01000008 61626364 02000008 61626364"); !bytes.Equal(b, want) {
		t.Errorf("Put keeps its argument: %x", b)
	}
	l, _ := Get(b)
	again, _ := Get(b)
	spoil(b)
	spoil(again[1].Value)
	spoil(l[0].Value)
	if string(l[1].Value) != "abcd" {
		t.Errorf("Get's results share memory: %x", l)
	}
	crumb := spare("crumb")
	c, _ := FromHello(api.Hello{Tag: 1, Out: 1, In: 1, Cookie: crumb}, true)
	spoil(crumb)
	h, _ := ToHello(c)
	spoil(c.Value)
	if string(h.Cookie) != "crumb" {
		t.Errorf("a Cookie is shared: %x", h.Cookie)
	}
	text := spare("text")
	c, _ = FromPiece(api.Piece{Bytes: text})
	spoil(text)
	p, _ := ToPiece(c)
	spoil(c.Value)
	if string(p.Bytes) != "text" {
		t.Errorf("the bytes of a piece are shared: %x", p.Bytes)
	}
	c, _ = FromHeard(api.Heard{Gaps: gaps(2), Dups: []uint32{3}})
	s, _ := ToHeard(c)
	spoil(c.Value)
	if !sameHeard(s, api.Heard{Gaps: gaps(2), Dups: []uint32{3}}) {
		t.Errorf("what a Sack says is shared: %v", s)
	}
}

func TestTwiceTheSame(t *testing.T) {
	for range 3 {
		b, e := Put(made(1, 2, "abc"), made(3, 4, "d"))
		l, f := Get(b)
		if hex.EncodeToString(b) != "01020007616263000304000564000000" || len(l) != 2 || e != api.OK || f != api.OK {
			t.Fatalf("Put, Get: %x, %d, %v, %d", b, e, l, f)
		}
	}
}

func FuzzAnyArguments(f *testing.F) {
	f.Add([]byte("\x0a\x01\x00\x07abc\x00\x0b\x00\x00\x04"), uint8(3), uint8(0), uint16(2), uint16(3), true)
	f.Add([]byte("\x00\x00\x00\x01\x00\x00\x00\x00\x00\x01\x00\x01\x00\x00\x00\x00\x00\x07\x00\x05a\x00\x00\x00"), uint8(2), uint8(0), uint16(1), uint16(1), true)
	f.Add([]byte("\x00\x00\x00\x01\x00\x00\x00\x00\x00\x00\x00\x2ea"), uint8(0), uint8(7), uint16(7), uint16(9), false)
	f.Add([]byte("\x00\x00\x00\x01\x00\x00\x00\x00\x00\x01\x00\x01\x00\x02\x00\x03\x00\x00\x00\x05"), uint8(3), uint8(0), uint16(2), uint16(65535), false)
	f.Fuzz(func(t *testing.T, b []byte, kind, flags uint8, x, y uint16, ack bool) {
		was := string(b)
		c := api.Chunk{Type: kind, Flags: flags, Value: b}
		readsAs(t, c)
		l, e := Get(b)
		if want, we := plainGet(b); e != we || !slices.EqualFunc(l, want, sameChunk) {
			t.Fatalf("Get(%x): %v, %d, want %v, %d", b, l, e, want, we)
		}
		if e == api.OK {
			if again, e := Put(l...); string(again) != was || e != api.OK {
				t.Fatalf("Put of Get(%x): %x, %d", b, again, e)
			}
		}
		if one, e := Put(c, c); e == api.OK {
			if two, e := Get(one); len(two) != 2 || !sameChunk(two[1], c) || e != api.OK {
				t.Fatalf("Get of Put(%v): %v, %d", c, two, e)
			}
		}
		h := api.Hello{Tag: uint32(x), Out: y, In: x, TSN: uint32(y), Cookie: b}
		if c, e := FromHello(h, ack); e == api.OK {
			if again, e := ToHello(c); !sameHello(again, h) || e != api.OK {
				t.Fatalf("ToHello of FromHello(%v): %v, %d", h, again, e)
			}
		}
		p := api.Piece{Stream: x % 9, Seq: y, Begin: ack, Bytes: b}
		if c, e := FromPiece(p); e == api.OK {
			if again, e := ToPiece(c); !samePiece(again, p) || e != api.OK {
				t.Fatalf("ToPiece of FromPiece(%v): %v, %d", p, again, e)
			}
		}
		s := api.Heard{Cum: uint32(x), Gaps: []api.Gap{{From: x, To: y}, {From: y, To: x}, {From: y + x, To: 65535}}[:kind%4]}
		if c, e := FromHeard(s); e == api.OK {
			if again, e := ToHeard(c); !sameHeard(again, s) || e != api.OK {
				t.Fatalf("ToHeard of FromHeard(%v): %v, %d", s, again, e)
			}
		}
		if string(b) != was {
			t.Fatalf("the argument changed")
		}
	})
}
