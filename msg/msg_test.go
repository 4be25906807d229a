package msg

import (
	"bytes"
	"encoding/binary"
	"encoding/hex"
	"math"
	"math/rand"
	"reflect"
	"slices"
	"strings"
	"testing"

	"trunkline/api"
	"trunkline/avp"
)

// unhex returns the bytes that s tells, with spaces between them or not.
func unhex(t testing.TB, s string) []byte {
	t.Helper()
	b, err := hex.DecodeString(strings.ReplaceAll(s, " ", ""))
	if err != nil {
		t.Fatal(err)
	}
	return b
}

// made returns an AVP without a Vendor and flags.
func made(code uint32, data string) api.Avp {
	return api.Avp{Code: code, Data: []byte(data)}
}

// pairs returns AVPs that have n bytes in all, which is a multiple of 4 and no less than 8.
func pairs(n int) []api.Avp {
	return []api.Avp{{Code: 7, Data: bytes.Repeat([]byte{'x'}, n-8)}}
}

// flagged returns a message with flags as they are in the first four bits of n, and nothing else.
func flagged(n int) api.Msg {
	return api.Msg{Request: n&128 != 0, Proxiable: n&64 != 0, Failed: n&32 != 0, Again: n&16 != 0}
}

// goTogether: of the 16 sets of flags, those that a message may have.
var goTogether = map[int]bool{0: true, 32: true, 64: true, 96: true, 128: true, 144: true, 192: true, 208: true}

// same holds two messages against each other, where no bytes are as good as empty ones.
func same(a, b api.Msg) bool {
	x, y := a, b
	x.Avps, y.Avps = nil, nil
	return reflect.DeepEqual(x, y) && slices.EqualFunc(a.Avps, b.Avps, sameAvp)
}

func sameAvp(a, b api.Avp) bool {
	return a.Code == b.Code && a.Vendor == b.Vendor && a.Must == b.Must && a.Protected == b.Protected && bytes.Equal(a.Data, b.Data)
}

// told is how much of its bytes a test tells.
func told(b []byte) string {
	if len(b) > 100 {
		return hex.EncodeToString(b[:100]) + "..."
	}
	return hex.EncodeToString(b)
}

// put returns the bytes of a message that may be put.
func put(t testing.TB, m api.Msg) []byte {
	t.Helper()
	b, e := Put(m)
	if e != api.OK {
		t.Fatalf("Put(%v): %d", m, e)
	}
	return b
}

// plainPut does what the chapter asks of Put in the plainest way.
func plainPut(m api.Msg) ([]byte, api.Errno) {
	if m.Code >= 16777216 {
		return nil, api.ErrRange
	}
	if m.Request && m.Failed || !m.Request && m.Again {
		return nil, api.ErrForm
	}
	list, e := avp.Put(m.Avps...)
	if e != api.OK {
		return nil, e
	}
	if len(list)+20 > 4096 {
		return nil, api.ErrLarge
	}
	bits := 0
	if m.Request {
		bits += 128
	}
	if m.Proxiable {
		bits += 64
	}
	if m.Failed {
		bits += 32
	}
	if m.Again {
		bits += 16
	}
	b := binary.BigEndian.AppendUint32(nil, uint32(1<<24+20+len(list)))
	b = binary.BigEndian.AppendUint32(b, uint32(bits)<<24+m.Code)
	b = binary.BigEndian.AppendUint32(b, m.App)
	b = binary.BigEndian.AppendUint32(b, m.Hop)
	b = binary.BigEndian.AppendUint32(b, m.End)
	return append(b, list...), api.OK
}

// plainHead does what the chapter asks of Head in the plainest way: it asks its questions in the chapter's order.
func plainHead(b []byte) (api.Msg, api.Errno) {
	if len(b) < 20 {
		return api.Msg{}, api.ErrShort
	}
	if b[0] != 1 {
		return api.Msg{}, api.ErrForm
	}
	n := int(b[1])*65536 + int(b[2])*256 + int(b[3])
	if n > 4096 {
		return api.Msg{}, api.ErrLarge
	}
	if n > len(b) {
		return api.Msg{}, api.ErrShort
	}
	if n < len(b) {
		return api.Msg{}, api.ErrForm
	}
	if n%4 != 0 {
		return api.Msg{}, api.ErrForm
	}
	m := flagged(int(b[4]))
	if m.Request && m.Failed || !m.Request && m.Again {
		return api.Msg{}, api.ErrForm
	}
	m.Code = binary.BigEndian.Uint32(b[4:]) % 16777216
	m.App = binary.BigEndian.Uint32(b[8:])
	m.Hop = binary.BigEndian.Uint32(b[12:])
	m.End = binary.BigEndian.Uint32(b[16:])
	return m, api.OK
}

// plainGet does what the chapter asks of Get.
func plainGet(b []byte) (api.Msg, api.Errno) {
	m, e := plainHead(b)
	if e != api.OK {
		return api.Msg{}, e
	}
	m.Avps, _, e = avp.Get(b[20:])
	if e != api.OK {
		return api.Msg{}, e
	}
	return m, api.OK
}

// puts holds Put against the plain one, and Get and Head against what was put.
func puts(t testing.TB, m api.Msg) {
	t.Helper()
	b, e := Put(m)
	want, we := plainPut(m)
	if !bytes.Equal(b, want) || e != we || e != api.OK && b != nil {
		t.Fatalf("Put(%v): %s, %d, want %s, %d", m, told(b), e, told(want), we)
	}
	if e != api.OK {
		return
	}
	if g, e := Get(b); !same(g, m) || e != api.OK {
		t.Fatalf("Get of Put(%v): %v, %d", m, g, e)
	}
	none := m
	none.Avps = nil
	if h, e := Head(b); !same(h, none) || e != api.OK {
		t.Fatalf("Head of Put(%v): %v, %d", m, h, e)
	}
}

// gets holds Get and Head against the plain ones, and Put against what was got: only the lowest flags, those of the AVPs, and what fills them up may differ.
func gets(t testing.TB, b []byte) {
	t.Helper()
	h, e := Head(b)
	if want, we := plainHead(b); !same(h, want) || e != we {
		t.Fatalf("Head(%s): %v, %d, want %v, %d", told(b), h, e, want, we)
	}
	g, e := Get(b)
	if want, we := plainGet(b); !same(g, want) || e != we {
		t.Fatalf("Get(%s): %v, %d, want %v, %d", told(b), g, e, want, we)
	}
	if e != api.OK {
		return
	}
	if again, e := Put(g); len(again) != len(b) || e != api.OK {
		t.Fatalf("Put of Get(%s): %s, %d", told(b), told(again), e)
	}
}

// wrong tells that Put answers an error.
func wrong(t *testing.T, name string, m api.Msg, want api.Errno) {
	t.Helper()
	if b, e := Put(m); b != nil || e != want {
		t.Errorf("Put of %s: %s, %d, want %d", name, told(b), e, want)
	}
	puts(t, m)
}

// bad tells that both Head and Get answer an error.
func bad(t *testing.T, name string, b []byte, want api.Errno) {
	t.Helper()
	if h, e := Head(b); !same(h, api.Msg{}) || e != want {
		t.Errorf("Head of %s (%s): %v, %d, want %d", name, told(b), h, e, want)
	}
	if g, e := Get(b); !same(g, api.Msg{}) || e != want {
		t.Errorf("Get of %s (%s): %v, %d, want %d", name, told(b), g, e, want)
	}
	gets(t, b)
}

// example returns the message of the chapter's example.
func example() api.Msg {
	return api.Msg{Request: true, Proxiable: true, Again: true, Code: 280, App: 1, Hop: 2, End: 3, Avps: []api.Avp{made(263, "abcd")}}
}

const exampleBytes = "01000020 d0000118 00000001 00000002 00000003 00000107 0000000c 61626364"

func TestExample(t *testing.T) {
	m := example()
	if b, e := Put(m); !bytes.Equal(b, unhex(t, exampleBytes)) || e != api.OK {
		t.Errorf("Put: %x, %d", b, e)
	}
	if g, e := Get(unhex(t, exampleBytes)); !same(g, m) || e != api.OK {
		t.Errorf("Get: %v, %d", g, e)
	}
	a := Answer(m, 3002, "h", "r")
	if !a.Failed || a.Again || len(a.Avps) != 3 {
		t.Errorf("Answer: %v", a)
	}
	if r := Base(9300); len(r) != 7 {
		t.Errorf("Base: %v", r)
	}
}

func TestPut(t *testing.T) {
	for _, c := range []struct {
		name string
		m    api.Msg
		want string
	}{
		{"nothing", api.Msg{}, "01000014 00000000 00000000 00000000 00000000"},
		{"no AVPs", api.Msg{Avps: []api.Avp{}}, "01000014 00000000 00000000 00000000 00000000"},
		{"the greatest Code", api.Msg{Code: 1<<24 - 1}, "01000014 00ffffff 00000000 00000000 00000000"},
		{"each number", api.Msg{Code: 0x010203, App: 0x04050607, Hop: 0x08090a0b, End: 0x0c0d0e0f}, "01000014 00010203 04050607 08090a0b 0c0d0e0f"},
		{"the greatest numbers", api.Msg{Code: 0xffffff, App: math.MaxUint32, Hop: math.MaxUint32, End: math.MaxUint32}, "01000014 00ffffff ffffffff ffffffff ffffffff"},
		{"App alone", api.Msg{App: 1}, "01000014 00000000 00000001 00000000 00000000"},
		{"Hop alone", api.Msg{Hop: 1}, "01000014 00000000 00000000 00000001 00000000"},
		{"End alone", api.Msg{End: 1}, "01000014 00000000 00000000 00000000 00000001"},
		{"an AVP that is filled up", api.Msg{Code: 5, Avps: []api.Avp{made(1, "a")}}, "01000020 00000005 00000000 00000000 00000000 00000001 00000009 61000000"},
		{"two AVPs", api.Msg{Request: true, Code: 257, Avps: []api.Avp{{Code: 264, Must: true, Data: []byte("h")}, {Code: 2, Vendor: 3, Protected: true}}}, "0100002c 80000101 00000000 00000000 00000000 00000108 40000009 68000000 00000002 a000000c 00000003"},
	} {
		if b, e := Put(c.m); !bytes.Equal(b, unhex(t, c.want)) || e != api.OK {
			t.Errorf("Put of %s: %x, %d, want %s", c.name, b, e, c.want)
		}
		puts(t, c.m)
	}
}

func TestPutOfEverySetOfFlags(t *testing.T) {
	for bits := 0; bits < 256; bits += 16 {
		for _, list := range [][]api.Avp{nil, {made(1, "abc")}} {
			m := flagged(bits)
			m.Code, m.Avps = 280, list
			b, e := Put(m)
			if goTogether[bits] && (e != api.OK || len(b) < 20 || b[4] != byte(bits)) {
				t.Errorf("Put of the flags %d: %x, %d", bits, b, e)
			}
			if !goTogether[bits] && (e != api.ErrForm || b != nil) {
				t.Errorf("Put of the flags %d: %x, %d", bits, b, e)
			}
			puts(t, m)
		}
	}
}

func TestPutOfCodes(t *testing.T) {
	for _, n := range []uint32{0, 1, 255, 256, 257, 280, 282, 9300, 65535, 65536, 1 << 23, 1<<24 - 2, 1<<24 - 1} {
		b := put(t, api.Msg{Code: n})
		if binary.BigEndian.Uint32(b[4:]) != n {
			t.Errorf("Put of the Code %d: %x", n, b)
		}
		puts(t, api.Msg{Request: true, Code: n})
	}
	for _, n := range []uint32{1 << 24, 1<<24 + 1, 1<<24 + 280, 1 << 25, 1 << 31, math.MaxUint32} {
		wrong(t, "a Code that is too great", api.Msg{Code: n}, api.ErrRange)
	}
}

func TestPutTooMuch(t *testing.T) {
	for _, c := range []struct {
		name string
		list []api.Avp
		size int // of the result, or 0 if there is none
	}{
		{"4 bytes less than MaxBytes", pairs(4072), 4092},
		{"just MaxBytes", pairs(4076), 4096},
		{"just MaxBytes, filled up", []api.Avp{made(1, strings.Repeat("x", 4065))}, 4096},
		{"a byte more", []api.Avp{made(1, strings.Repeat("x", 4069))}, 0},
		{"more by the head alone", pairs(4080), 0},
		{"AVPs of just MaxBytes", pairs(4096), 0},
		{"more AVPs than MaxBytes", pairs(4100), 0},
		{"many more bytes", pairs(100000), 0},
		{"just MaxBytes of two", append(pairs(2000), pairs(2076)...), 4096},
		{"more of two", append(pairs(2000), pairs(2080)...), 0},
		{"MaxAvps", make([]api.Avp, 64), 532},
		{"an AVP more", make([]api.Avp, 65), 0},
		{"MaxAvps of just MaxBytes", append(slices.Repeat(pairs(64), 63), pairs(44)...), 4096},
		{"MaxAvps of more", append(slices.Repeat(pairs(64), 63), pairs(48)...), 0},
	} {
		for _, m := range []api.Msg{{Avps: c.list}, {Request: true, Again: true, Code: 1<<24 - 1, App: 1, Hop: 2, End: 3, Avps: c.list}} {
			if c.size == 0 {
				wrong(t, c.name, m, api.ErrLarge)
				continue
			}
			b, e := Put(m)
			if len(b) != c.size || e != api.OK || int(binary.BigEndian.Uint32(b)) != 1<<24+c.size {
				t.Errorf("Put of %s: %d bytes, %d", c.name, len(b), e)
			}
			puts(t, m)
		}
	}
}

func TestPutOfTwoFaults(t *testing.T) {
	for _, list := range [][]api.Avp{nil, make([]api.Avp, 65), pairs(4080), pairs(4100)} {
		for bits := range goTogether {
			m := flagged(bits)
			m.Code, m.Avps = 1<<24, list
			wrong(t, "a Code that is too great", m, api.ErrRange)
		}
		for _, m := range []api.Msg{{Request: true, Failed: true}, {Again: true}, {Failed: true, Again: true}} {
			m.Avps = list
			wrong(t, "flags that don't go together", m, api.ErrForm)
			m.Code = 1 << 24
			wrong(t, "flags that don't go together, and a Code that is too great", m, api.ErrRange)
		}
	}
}

// with returns b, of which some bytes are others: at, byte, at, byte ..
func with(b []byte, changes ...int) []byte {
	b = slices.Clone(b)
	for i := 0; i < len(changes); i += 2 {
		b[changes[i]] = byte(changes[i+1])
	}
	return b
}

// sized returns n bytes that begin as a message does that has size bytes and these flags.
func sized(n, size, flags int) []byte {
	b := make([]byte, max(n, 20))
	copy(b, with(b, 0, 1, 1, size>>16, 2, size>>8, 3, size, 4, flags))
	return b[:n]
}

func TestGetOfShortBytes(t *testing.T) {
	bad(t, "nil", nil, api.ErrShort)
	bad(t, "no bytes", []byte{}, api.ErrShort)
	for n := range 20 {
		bad(t, "less than a head", sized(n, n, 0), api.ErrShort)
		bad(t, "less than a head that says 20", sized(n, 20, 0), api.ErrShort)
		bad(t, "less than a head that says too much, too", sized(n, 5000, 144), api.ErrShort)
		bad(t, "zeros", make([]byte, n), api.ErrShort)
		bad(t, "ones", bytes.Repeat([]byte{255}, n), api.ErrShort)
	}
	b := sized(20, 20, 0)
	if m, e := Get(b); !same(m, api.Msg{}) || e != api.OK {
		t.Errorf("Get of 20 bytes: %v, %d", m, e)
	}
	if m, e := Head(b); !same(m, api.Msg{}) || e != api.OK {
		t.Errorf("Head of 20 bytes: %v, %d", m, e)
	}
	gets(t, b)
}

func TestGetOfVersions(t *testing.T) {
	b := unhex(t, exampleBytes)
	for n := range 256 {
		if n != 1 {
			bad(t, "another first byte", with(b, 0, n), api.ErrForm)
			bad(t, "another first byte, and a length above MaxBytes", with(b, 0, n, 1, 1), api.ErrForm)
			bad(t, "another first byte, and a length above that of b", with(b, 0, n, 3, 36), api.ErrForm)
			bad(t, "another first byte, and flags that don't go together", with(b, 0, n, 4, 160), api.ErrForm)
		}
	}
	bad(t, "20 zeros", make([]byte, 20), api.ErrForm)
}

func TestGetOfLengths(t *testing.T) {
	for _, flags := range []int{0, 208, 16, 160, 255} { // with the last three, which don't go together, a length is at fault first
		for _, n := range []int{20, 24, 32, 21, 22, 23, 4092, 4095, 4096, 4097, 4100, 8192} {
			for _, size := range []int{4097, 4098, 4099, 4100, 5000, 8192, 65535, 65536, 1<<24 - 1} {
				bad(t, "a length above MaxBytes", sized(n, size, flags), api.ErrLarge)
			}
			for _, more := range []int{1, 2, 3, 4, 8, 1000} {
				if n+more <= 4096 {
					bad(t, "a length above that of b", sized(n, n+more, flags), api.ErrShort)
				}
			}
			for _, size := range []int{0, 1, 19, 20, n - 4, n - 1, 4096} {
				if size < n && size <= 4096 {
					bad(t, "a length below that of b", sized(n, size, flags), api.ErrForm)
				}
			}
			if n%4 != 0 && n <= 4096 {
				bad(t, "a length that isn't a multiple of 4", sized(n, n, flags), api.ErrForm)
			}
		}
	}
}

func TestGetOfEveryByteOfTheLength(t *testing.T) {
	b := put(t, api.Msg{Avps: pairs(0x0400 - 20)})
	if m, e := Get(b); len(m.Avps) != 1 || e != api.OK {
		t.Errorf("Get of 1024 bytes: %v, %d", m, e)
	}
	for at := 1; at < 4; at++ {
		for n := range 256 {
			gets(t, with(b, at, n))
		}
	}
	gets(t, put(t, api.Msg{Avps: pairs(4076)}))
}

func TestGetOfEverySetOfFlags(t *testing.T) {
	for _, avps := range []string{"", "00000001 40000008"} {
		for bits := range 256 {
			b := slices.Concat(sized(20, 20+len(unhex(t, avps)), bits), unhex(t, avps))
			b[7] = 5
			want := flagged(bits)
			want.Code = 5
			if !goTogether[bits&0xf0] {
				bad(t, "flags that don't go together", b, api.ErrForm)
				continue
			}
			if m, e := Head(b); !same(m, want) || e != api.OK {
				t.Errorf("Head of the flags %d: %v, %d, want %v", bits, m, e, want)
			}
			if avps != "" {
				want.Avps = []api.Avp{{Code: 1, Must: true}}
			}
			if m, e := Get(b); !same(m, want) || e != api.OK {
				t.Errorf("Get of the flags %d: %v, %d, want %v", bits, m, e, want)
			}
			gets(t, b)
		}
	}
}

func TestGetOfNumbers(t *testing.T) {
	want := api.Msg{Request: true, Code: 0x010203, App: 0x84050607, Hop: 0x88090a0b, End: 0x8c0d0e0f}
	b := unhex(t, "01000014 80010203 84050607 88090a0b 8c0d0e0f")
	if m, e := Get(b); !same(m, want) || e != api.OK {
		t.Errorf("Get: %v, %d, want %v", m, e, want)
	}
	if m, e := Head(b); !same(m, want) || e != api.OK {
		t.Errorf("Head: %v, %d, want %v", m, e, want)
	}
}

// TestAvpsAtFault: Get answers the errors of chapter 16, and Head doesn't look at AVPs.
func TestAvpsAtFault(t *testing.T) {
	for _, c := range []struct {
		name, avps string
		want       api.Errno
	}{
		{"4 bytes", "00000001", api.ErrShort},
		{"too few bytes for a Vendor", "00000001 8000000c", api.ErrShort},
		{"a length of 7", "00000001 00000007", api.ErrForm},
		{"a length of 8 with a Vendor", "00000001 80000008 00000001", api.ErrForm},
		{"a length of too much", "00000001 0000000c", api.ErrShort},
		{"no bytes that fill it up", "00000001 00000009", api.ErrShort},
		{"the Vendor 0", "00000001 8000000c 00000000", api.ErrForm},
		{"the second one", "00000001 00000008 00000002 00000000", api.ErrForm},
		{"more than MaxAvps", strings.Repeat("00000001 00000008", 65), api.ErrLarge},
	} {
		tail := unhex(t, c.avps)
		for _, flags := range []int{0, 208} {
			b := slices.Concat(sized(20, 20+len(tail), flags), tail)
			if m, e := Get(b); !same(m, api.Msg{}) || e != c.want {
				t.Errorf("Get of %s: %v, %d, want %d", c.name, m, e, c.want)
			}
			if m, e := Head(b); !same(m, flagged(flags)) || e != api.OK {
				t.Errorf("Head of %s: %v, %d", c.name, m, e)
			}
			gets(t, b)
			bad(t, c.name+", and flags that don't go together", with(b, 4, 160), api.ErrForm)
			bad(t, c.name+", and another first byte", with(b, 0, 2), api.ErrForm)
			bad(t, c.name+", and a length that is above that of b", sized(20, 24, flags), api.ErrShort)
		}
	}
}

// TestGetOfEveryBeginning: of what Put wrote, no beginning is a message, and nothing that goes on.
func TestGetOfEveryBeginning(t *testing.T) {
	m := example()
	m.Avps = append(m.Avps, made(1, "a"), api.Avp{Code: 2, Vendor: 3, Must: true, Data: []byte("abcdef")})
	b := put(t, m)
	for n := range b {
		bad(t, "a beginning", b[:n], api.ErrShort)
	}
	for n := 1; n < 20; n++ {
		bad(t, "what goes on", append(slices.Clone(b), make([]byte, n)...), api.ErrForm)
	}
	for n := 20; n < len(b); n++ {
		cut := with(b[:n], 3, n)
		if m, e := Head(cut); (e == api.OK) != (n%4 == 0) || !same(m, api.Msg{}) && e != api.OK {
			t.Errorf("Head of %x: %v, %d", cut, m, e)
		}
		gets(t, cut)
	}
}

func TestGetOfEveryNear(t *testing.T) {
	m := example()
	m.Avps = append(m.Avps, api.Avp{Code: 2, Vendor: 3, Protected: true, Data: []byte("a")})
	b := put(t, m)
	for at := range b {
		for n := range 256 {
			gets(t, with(b, at, n))
		}
	}
}

// random returns a message, of few numbers so that they meet.
func random(r *rand.Rand) api.Msg {
	m := flagged(16 * r.Intn(16))
	m.Code, m.App, m.Hop, m.End = r.Uint32()>>r.Intn(32), r.Uint32(), r.Uint32(), r.Uint32()
	for range r.Intn(6) {
		data := make([]byte, []int{0, 1, 3, 4, 4, 4, 5, 40}[r.Intn(8)])
		r.Read(data)
		m.Avps = append(m.Avps, api.Avp{Code: 264 + uint32(r.Intn(6)), Vendor: uint32(r.Intn(3) / 2), Must: r.Intn(2) == 0, Protected: r.Intn(2) == 0, Data: data})
	}
	return m
}

func TestOfRandom(t *testing.T) {
	r := rand.New(rand.NewSource(18))
	seen := make(map[api.Errno]int)
	for range 40000 {
		m := random(r)
		puts(t, m)
		finds(t, m)
		answers(t, m, r.Intn(6000)-500, "host", "realm", random(r).Avps...)
		m.Request, m.Failed, m.Again, m.Code = true, false, false, m.Code>>8
		b := put(t, m)
		for range r.Intn(4) {
			b[r.Intn(len(b))] = byte(r.Intn(256))
		}
		if r.Intn(4) == 0 {
			b = b[:r.Intn(len(b)+1)]
		}
		gets(t, b)
		_, e := Get(b)
		seen[e]++
	}
	for _, e := range []api.Errno{api.OK, api.ErrForm, api.ErrShort, api.ErrLarge} {
		if seen[e] < 100 {
			t.Errorf("Get answered %d only %d times", e, seen[e])
		}
	}
}

// spare returns the bytes of s with room behind them, which is marked.
func spare(s string) []byte {
	b := []byte(s + strings.Repeat("\xaa", 16))
	return b[:len(s)]
}

// untouched reports whether b holds s, and the room behind it its marks.
func untouched(b []byte, s string) bool {
	return string(b[:len(s)+16]) == s+strings.Repeat("\xaa", 16)
}

func TestArgumentsAreLeftAlone(t *testing.T) {
	b := spare(string(unhex(t, exampleBytes)))
	Get(b)
	Head(b)
	if !untouched(b, string(unhex(t, exampleBytes))) {
		t.Errorf("Get or Head changed its argument: %x", b[:cap(b)])
	}
	for bits := 0; bits < 256; bits += 16 {
		v, w := spare("abcd"), spare("ef")
		kept := append(make([]api.Avp, 0, 8), api.Avp{Code: api.ResultCode, Data: v}, api.Avp{Code: 2, Vendor: 3, Must: true, Data: w}, api.Avp{Code: 98})
		more := append(make([]api.Avp, 0, 8), api.Avp{Code: 4, Data: w}, api.Avp{Code: 97}, api.Avp{Code: 96})
		m := flagged(bits)
		m.Code, m.App, m.Hop, m.End, m.Avps = 280, 1, 2, 3, kept[:2]
		was := m
		was.Avps = []api.Avp{made(api.ResultCode, "abcd"), {Code: 2, Vendor: 3, Must: true, Data: []byte("ef")}}
		Put(m)
		Find(m, api.ResultCode)
		Find(m, 2)
		Code(m)
		Answer(m, 3001, "h", "r", more[:1]...)
		if !same(m, was) || kept[2].Code != 98 || !untouched(v, "abcd") || !untouched(w, "ef") {
			t.Errorf("a message changed: %v, want %v", m, was)
		}
		if !sameAvp(more[0], made(4, "ef")) || more[1].Code != 97 || more[2].Code != 96 {
			t.Errorf("what is added to an answer changed: %v", more)
		}
	}
}

// spoil writes over all that can be reached by b.
func spoil(b []byte) {
	b = b[:cap(b)]
	for i := range b {
		b[i] = 0xee
	}
}

// spoilAll writes over all that can be reached by the AVPs of m.
func spoilAll(m api.Msg) {
	list := m.Avps[:cap(m.Avps)]
	for i := range list {
		spoil(list[i].Data)
		list[i] = api.Avp{Code: 0xee}
	}
}

func TestBytesShareNoMemory(t *testing.T) {
	v := spare("abcd")
	m := example()
	m.Avps[0].Data = v
	b, other := put(t, m), put(t, m)
	spoil(other)
	spoil(v)
	if !bytes.Equal(b, unhex(t, exampleBytes)) {
		t.Errorf("Put keeps its argument, or its answers share memory: %x", b)
	}
	g, _ := Get(b)
	again, _ := Get(b)
	spoilAll(again)
	spoil(b)
	if !same(g, example()) {
		t.Errorf("Get keeps its argument, or its answers share memory: %v", g)
	}
	b = put(t, api.Msg{Avps: slices.Repeat([]api.Avp{made(1, "abcd")}, 9)})
	for i := range 9 {
		g, _ := Get(b)
		for j := range g.Avps {
			if j != i {
				spoil(g.Avps[j].Data)
			}
		}
		if string(g.Avps[i].Data) != "abcd" {
			t.Errorf("the AVPs of a message share memory: %v", g)
		}
	}
}

func TestTwiceTheSame(t *testing.T) {
	for range 20 {
		for bits := range goTogether {
			m := flagged(bits)
			m.Avps = []api.Avp{made(1, "a"), made(2, "b")}
			if b := put(t, m); b[4] != byte(bits) {
				t.Fatalf("Put(%v): %x", m, b)
			}
			puts(t, m)
		}
	}
}

func FuzzAnyArguments(f *testing.F) {
	f.Add([]byte("\x01\x00\x00\x20\xd0\x00\x01\x18\x00\x00\x00\x01\x00\x00\x00\x02\x00\x00\x00\x03\x00\x00\x01\x07\x00\x00\x00\x0cabcd"), uint32(280), 3002, "h", "r", uint8(13))
	f.Add([]byte("\x01\x00\x00\x14\x20\x00\x01\x01\x00\x00\x00\x00\x00\x00\x00\x00\x00\x00\x00\x00"), uint32(1<<24), -1, "", "\xff", uint8(3))
	f.Add([]byte("abcd"), uint32(268), 1<<32, "host", "", uint8(0))
	f.Fuzz(func(t *testing.T, b []byte, n uint32, code int, host, realm string, bits uint8) {
		was := string(b)
		gets(t, b)
		m := flagged(int(bits) << 4)
		m.Code, m.App, m.Hop, m.End = n, n+1, n+2, n+3
		m.Avps = []api.Avp{{Code: n, Vendor: uint32(bits), Data: b}, {Code: api.ResultCode, Must: true, Data: b}, {Code: n, Data: b}}
		puts(t, m)
		finds(t, m)
		answers(t, m, code, host, realm, m.Avps...)
		if got, e := Get(b); e == api.OK {
			finds(t, got)
			answers(t, got, code, host, realm)
		}
		bases(t, n)
		if string(b) != was {
			t.Fatalf("the argument changed")
		}
	})
}
