package avp

import (
	"bytes"
	"encoding/binary"
	"encoding/hex"
	"math"
	"math/rand"
	"reflect"
	"slices"
	"strings"
	"testing"

	"trunkline/api"
)

// unhex returns the bytes that s tells, with spaces between them or not.
func unhex(t testing.TB, s string) []byte {
	t.Helper()
	b, err := hex.DecodeString(strings.ReplaceAll(s, " ", ""))
	if err != nil {
		t.Fatal(err)
	}
	return b
}

// made returns an AVP without a Vendor and flags.
func made(code uint32, data string) api.Avp {
	return api.Avp{Code: code, Data: []byte(data)}
}

// some returns n AVPs with the codes 1 to n and no Data: each of them has 8 bytes.
func some(n int) []api.Avp {
	list := make([]api.Avp, n)
	for i := range list {
		list[i].Code = uint32(i + 1)
	}
	return list
}

// put returns the bytes of AVPs that may be put.
func put(t testing.TB, list ...api.Avp) []byte {
	t.Helper()
	b, e := Put(list...)
	if e != api.OK {
		t.Fatalf("Put(%v): %d", list, e)
	}
	return b
}

// same holds two AVPs against each other, where no Data are as good as empty ones.
func same(a, b api.Avp) bool {
	return a.Code == b.Code && a.Vendor == b.Vendor && a.Must == b.Must && a.Protected == b.Protected && bytes.Equal(a.Data, b.Data)
}

func sameItem(a, b Item) bool {
	return a.Depth == b.Depth && same(a.Avp, b.Avp)
}

// plainPut does what the chapter asks of Put in the plainest way: it puts all first.
func plainPut(list []api.Avp) ([]byte, api.Errno) {
	var b []byte
	for _, a := range list {
		var bits, n = 0, 8 + len(a.Data)
		if a.Vendor != 0 {
			bits, n = 128, n+4
		}
		if a.Must {
			bits |= 64
		}
		if a.Protected {
			bits |= 32
		}
		b = binary.BigEndian.AppendUint32(b, a.Code)
		b = binary.BigEndian.AppendUint32(b, uint32(bits<<24+n))
		if a.Vendor != 0 {
			b = binary.BigEndian.AppendUint32(b, a.Vendor)
		}
		b = append(b, a.Data...)
		for len(b)%4 != 0 {
			b = append(b, 0)
		}
	}
	if len(list) > 64 || len(b) > 4096 {
		return nil, api.ErrLarge
	}
	return b, api.OK
}

// plainGet does what the chapter asks of Get in the plainest way: it takes the AVPs off the front, one by one, and asks its questions in the chapter's order.
func plainGet(b []byte) ([]api.Avp, int, api.Errno) {
	if len(b) > 4096 {
		return nil, 0, api.ErrLarge
	}
	var list []api.Avp
	for rest := b; len(rest) > 0; {
		at := len(b) - len(rest)
		if len(list) == 64 {
			return nil, at, api.ErrLarge
		}
		if len(rest) < 8 {
			return nil, at, api.ErrShort
		}
		vendor, ahead := rest[4] >= 128, 8
		if vendor {
			ahead = 12
		}
		if len(rest) < ahead {
			return nil, at, api.ErrShort
		}
		n := int(rest[5])*65536 + int(rest[6])*256 + int(rest[7])
		if n < ahead {
			return nil, at, api.ErrForm
		}
		filled := (n + 3) / 4 * 4
		if filled > len(rest) {
			return nil, at, api.ErrShort
		}
		a := api.Avp{Code: binary.BigEndian.Uint32(rest), Must: rest[4]/64%2 == 1, Protected: rest[4]/32%2 == 1}
		if vendor {
			a.Vendor = binary.BigEndian.Uint32(rest[8:])
			if a.Vendor == 0 {
				return nil, at, api.ErrForm
			}
		}
		a.Data = rest[ahead:n]
		list = append(list, a)
		rest = rest[filled:]
	}
	return list, 0, api.OK
}

// plainOpen does what the chapter asks of Open in the plainest way: it keeps a list of what is still to be told, each with its Depth.
func plainOpen(b []byte, groups []uint32) ([]Item, api.Errno) {
	list, _, e := plainGet(b)
	if e != api.OK {
		return nil, e
	}
	var todo, told []Item
	for _, a := range list {
		todo = append(todo, Item{0, a})
	}
	for len(todo) > 0 {
		x := todo[0]
		todo = todo[1:]
		if x.Depth > 7 {
			return nil, api.ErrDeep
		}
		told = append(told, x)
		if len(told) > 256 {
			return nil, api.ErrLarge
		}
		if x.Avp.Vendor != 0 || !slices.Contains(groups, x.Avp.Code) {
			continue
		}
		list, _, e := plainGet(x.Avp.Data)
		if e != api.OK {
			return nil, api.ErrForm
		}
		var inner []Item
		for _, a := range list {
			inner = append(inner, Item{x.Depth + 1, a})
		}
		todo = append(inner, todo...)
	}
	return told, api.OK
}

// puts holds Put against the plain one, and Get against what was put.
func puts(t testing.TB, list ...api.Avp) {
	t.Helper()
	b, e := Put(list...)
	want, we := plainPut(list)
	if !bytes.Equal(b, want) || e != we || e != api.OK && b != nil {
		t.Fatalf("Put of %d AVPs: %x, %d, want %x, %d", len(list), b, e, want, we)
	}
	if e != api.OK {
		return
	}
	l, at, e := Get(b)
	if !slices.EqualFunc(l, list, same) || at != 0 || e != api.OK {
		t.Fatalf("Get of Put(%v): %v, %d, %d", list, l, at, e)
	}
}

// gets holds Get against the plain one, and Put against what it got: only the filling bytes and the other flags may differ.
func gets(t testing.TB, b []byte) {
	t.Helper()
	l, at, e := Get(b)
	want, wa, we := plainGet(b)
	if !slices.EqualFunc(l, want, same) || at != wa || e != we || e != api.OK && l != nil {
		t.Fatalf("Get(%x): %v, %d, %d, want %v, %d, %d", b, l, at, e, want, wa, we)
	}
	if e != api.OK {
		return
	}
	if again, e := Put(l...); len(again) != len(b) || e != api.OK {
		t.Fatalf("Put of Get(%x): %x, %d", b, again, e)
	}
}

// opens holds Open against the plain one.
func opens(t testing.TB, b []byte, groups ...uint32) {
	t.Helper()
	l, e := Open(b, groups...)
	want, we := plainOpen(b, groups)
	if !slices.EqualFunc(l, want, sameItem) || e != we || e != api.OK && l != nil {
		t.Fatalf("Open(%x, %v): %v, %d, want %v, %d", b, groups, l, e, want, we)
	}
}

// wrong tells that Get answers an error, at a place.
func wrong(t *testing.T, name string, b []byte, at int, want api.Errno) {
	t.Helper()
	if l, a, e := Get(b); l != nil || a != at || e != want {
		t.Errorf("Get of %s (%x): %v, %d, %d, want %d, %d", name, b, l, a, e, at, want)
	}
	gets(t, b)
}

func TestExamples(t *testing.T) {
	one := api.Avp{Code: 263, Must: true, Data: []byte("ab")}
	two := api.Avp{Code: 1, Vendor: 9, Protected: true}
	if b, e := Put(one); !bytes.Equal(b, []byte{0, 0, 1, 7, 64, 0, 0, 10, 97, 98, 0, 0}) || e != api.OK {
		t.Errorf("Put of one: %v, %d", b, e)
	}
	b := put(t, one, two)
	if want := unhex(t, "00000107 4000000a 61620000 00000001 a000000c 00000009"); !bytes.Equal(b, want) {
		t.Errorf("Put of two: %x, want %x", b, want)
	}
	if l, at, e := Get(b); !slices.EqualFunc(l, []api.Avp{one, two}, same) || at != 0 || e != api.OK {
		t.Errorf("Get: %v, %d, %d", l, at, e)
	}
	wrong(t, "what is cut off", b[:20], 12, api.ErrShort)
	for _, c := range []struct {
		kind int
		data string
		want api.Errno
	}{{api.Unsigned32, "abc", api.ErrShort}, {api.Text, "\xff", api.ErrRange}, {api.Identity, "Host", api.ErrRange}, {12, "", api.ErrArg}} {
		if e := Fits(c.kind, []byte(c.data)); e != c.want {
			t.Errorf("Fits(%d, %q): %d, want %d", c.kind, c.data, e, c.want)
		}
	}
}

func TestPut(t *testing.T) {
	for _, c := range []struct {
		list []api.Avp
		want string
	}{
		{nil, ""},
		{[]api.Avp{}, ""},
		{[]api.Avp{{}}, "00000000 00000008"},
		{[]api.Avp{{Data: []byte{}}}, "00000000 00000008"},
		{[]api.Avp{made(1, "a")}, "00000001 00000009 61000000"},
		{[]api.Avp{made(2, "abc")}, "00000002 0000000b 61626300"},
		{[]api.Avp{made(3, "abcd")}, "00000003 0000000c 61626364"},
		{[]api.Avp{made(4, "abcde")}, "00000004 0000000d 61626364 65000000"},
		{[]api.Avp{made(math.MaxUint32, "")}, "ffffffff 00000008"},
		{[]api.Avp{{Code: 0x01020304, Vendor: 0x05060708}}, "01020304 8000000c 05060708"},
		{[]api.Avp{{Code: 1, Vendor: math.MaxUint32, Data: []byte("a")}}, "00000001 8000000d ffffffff 61000000"},
		{[]api.Avp{{Code: 1, Vendor: 1, Must: true, Protected: true, Data: []byte("abcd")}}, "00000001 e0000010 00000001 61626364"},
		{[]api.Avp{{Code: 1, Must: true}}, "00000001 40000008"},
		{[]api.Avp{{Code: 1, Protected: true}}, "00000001 20000008"},
		{[]api.Avp{{Code: 1, Must: true, Protected: true}}, "00000001 60000008"},
		{[]api.Avp{made(1, "\x00"), made(1, "\x00")}, "00000001 00000009 00000000 00000001 00000009 00000000"},
	} {
		b, e := Put(c.list...)
		if want := unhex(t, c.want); !bytes.Equal(b, want) || e != api.OK {
			t.Errorf("Put(%v): %x, %d, want %x", c.list, b, e, want)
		}
		puts(t, c.list...)
	}
}

func TestPutOfEveryKind(t *testing.T) {
	for n := range 20 {
		for _, vendor := range []uint32{0, 1, 255, 256, 1 << 31, math.MaxUint32} {
			for bits := range 4 {
				a := api.Avp{Code: uint32(n) << 27, Vendor: vendor, Must: bits&1 != 0, Protected: bits&2 != 0, Data: bytes.Repeat([]byte{0xff}, n)}
				puts(t, a)
				puts(t, a, made(5, "abc"), a)
			}
		}
	}
}

func TestPutOfEveryLength(t *testing.T) {
	data := bytes.Repeat([]byte("data"), 1100)
	for n := range 4400 {
		puts(t, api.Avp{Code: 1, Data: data[:n]})
		puts(t, api.Avp{Code: 1, Vendor: 2, Data: data[:n]})
	}
}

func TestPutTooMuch(t *testing.T) {
	large := func(n int) api.Avp { return api.Avp{Code: 7, Data: make([]byte, n)} }
	seller := func(n int) api.Avp { return api.Avp{Code: 7, Vendor: 7, Data: make([]byte, n)} }
	for _, c := range []struct {
		name string
		list []api.Avp
		size int // of the result, or 0 if there is none
	}{
		{"MaxAvps", some(64), 512},
		{"one more", some(65), 0},
		{"many more", some(5000), 0},
		{"just MaxBytes", []api.Avp{large(4088)}, 4096},
		{"just MaxBytes, filled", []api.Avp{large(4085)}, 4096},
		{"a byte more", []api.Avp{large(4089)}, 0},
		{"just MaxBytes with a Vendor", []api.Avp{seller(4084)}, 4096},
		{"a byte more with a Vendor", []api.Avp{seller(4085)}, 0},
		{"just MaxBytes of two", []api.Avp{large(2040), large(2040)}, 4096},
		{"more by filling bytes alone", []api.Avp{large(2041), large(2037)}, 0},
		{"more by the first", []api.Avp{large(4089), large(0)}, 0},
		{"more by the last", []api.Avp{large(4088), large(0)}, 0},
		{"a length of more than three bytes", []api.Avp{large(1 << 24)}, 0},
		{"a length that begins anew", []api.Avp{large(1<<24 - 8)}, 0},
		{"MaxAvps of just MaxBytes", slices.Repeat([]api.Avp{large(56)}, 64), 4096},
		{"MaxAvps of more", append(slices.Repeat([]api.Avp{large(56)}, 63), large(57)), 0},
		{"much of each", slices.Repeat([]api.Avp{large(4000)}, 100), 0},
	} {
		b, e := Put(c.list...)
		if c.size == 0 && (b != nil || e != api.ErrLarge) || c.size != 0 && (len(b) != c.size || e != api.OK) {
			t.Errorf("Put of %s: %d bytes, %d", c.name, len(b), e)
		}
		puts(t, c.list...)
	}
}

func TestGetReadsWhatPutDoesNotWrite(t *testing.T) {
	for _, c := range []struct {
		b    string
		want api.Avp
	}{
		{"00000001 1f000008", api.Avp{Code: 1}},
		{"00000001 5000000a 6162ffff", api.Avp{Code: 1, Must: true, Data: []byte("ab")}},
		{"00000001 2100000b 61626301", api.Avp{Code: 1, Protected: true, Data: []byte("abc")}},
		{"00000001 ff00000d 00000003 61010203", api.Avp{Code: 1, Vendor: 3, Must: true, Protected: true, Data: []byte("a")}},
		{"00000001 9f00000c 00000003", api.Avp{Code: 1, Vendor: 3}},
	} {
		b := unhex(t, c.b)
		if l, at, e := Get(b); len(l) != 1 || !same(l[0], c.want) || at != 0 || e != api.OK {
			t.Errorf("Get(%x): %v, %d, %d, want %v", b, l, at, e, c.want)
		}
		gets(t, b)
	}
	for bits := range 256 {
		gets(t, append(unhex(t, "00000001"), byte(bits), 0, 0, 13, 1, 2, 3, 4, 5, 6, 7, 8))
	}
}

// faults: bytes of one AVP that may not be. What may stand behind them is told by alone: nothing, if they are only wrong as the last ones.
var faults = []struct {
	name, b string
	want    api.Errno
	alone   bool
}{
	{"1 byte", "00", api.ErrShort, true},
	{"4 bytes", "00000001", api.ErrShort, true},
	{"5 bytes with the flag 128", "00000001 80", api.ErrShort, true},
	{"7 bytes", "00000001 000000", api.ErrShort, true},
	{"7 bytes with the flag 128", "00000001 800000", api.ErrShort, true},
	{"8 bytes with the flag 128", "00000001 8000000c", api.ErrShort, true},
	{"11 bytes with the flag 128", "00000001 8000000c 000000", api.ErrShort, true},
	{"11 bytes with the flag 128 and a length below 8", "00000001 80000007 000000", api.ErrShort, true},
	{"11 bytes with the flag 128 and a length of 8", "00000001 80000008 000000", api.ErrShort, true},
	{"a length of 0", "00000001 00000000", api.ErrForm, false},
	{"a length of 7", "00000001 00000007", api.ErrForm, false},
	{"a length of 7 with the flags 64 and 32", "00000001 60000007 00000000", api.ErrForm, false},
	{"a length of 0 with the flag 128", "00000001 80000000 00000001", api.ErrForm, false},
	{"a length of 8 with the flag 128", "00000001 80000008 00000001", api.ErrForm, false},
	{"a length of 11 with the flag 128", "00000001 8000000b 00000001", api.ErrForm, false},
	{"a length of 11 with the flag 128 and Vendor 0", "00000001 8000000b 00000000", api.ErrForm, false},
	{"a length beyond the end", "00000001 00000009", api.ErrShort, true},
	{"a length beyond the end by a byte", "00000001 0000000d 61626364", api.ErrShort, true},
	{"a length beyond the end by a filling byte", "00000001 00000009 610000", api.ErrShort, true},
	{"a length beyond the end by three filling bytes", "00000001 00000009 61", api.ErrShort, true},
	{"a length of 9 with 1 filling byte of 2", "00000001 0000000a 616200", api.ErrShort, true},
	{"a length beyond the end with a Vendor", "00000001 8000000d 00000001", api.ErrShort, true},
	{"a length beyond the end with a Vendor, by a filling byte", "00000001 8000000d 00000001 610000", api.ErrShort, true},
	{"a length beyond the end with Vendor 0", "00000001 8000000d 00000000", api.ErrShort, true},
	{"the second byte of a length", "00000001 00000100 61626364", api.ErrShort, true},
	{"the first byte of a length", "00000001 00010000 61626364", api.ErrShort, true},
	{"the greatest length", "00000001 00ffffff 61626364", api.ErrShort, false},
	{"Vendor 0", "00000001 8000000c 00000000", api.ErrForm, false},
	{"Vendor 0 and Data", "00000001 e000000d 00000000 61000000", api.ErrForm, false},
}

func TestGetOfFaults(t *testing.T) {
	before := [][]api.Avp{nil, {made(5, "")}, {made(5, "a")}, {{Code: 5, Vendor: 6, Data: []byte("abc")}}, {made(5, "a"), made(6, "abcdefgh"), made(7, "")}, some(63)}
	for _, c := range faults {
		fault := unhex(t, c.b)
		for _, list := range before {
			b := append(put(t, list...), fault...)
			at := len(b) - len(fault)
			wrong(t, c.name, b, at, c.want)
			if !c.alone {
				wrong(t, c.name+", and an AVP", append(b, put(t, made(8, "ab"))...), at, c.want)
				wrong(t, c.name+", and another one", append(b, 1, 2, 3), at, c.want)
			}
		}
	}
}

func TestGetOfEveryBeginning(t *testing.T) {
	b := put(t, made(1, "a"), api.Avp{Code: 2, Vendor: 3, Data: []byte("ab")}, made(4, ""), api.Avp{Code: 5, Vendor: 6}, made(7, "abcdefghi"))
	for n := range b {
		for last := range 3 {
			gets(t, append(b[:n:n], make([]byte, last)...))
		}
	}
	for n, want := range map[int]int{0: 0, 12: 1, 28: 2, 36: 3, 48: 4, 68: 5} {
		if l, at, e := Get(b[:n]); len(l) != want || at != 0 || e != api.OK {
			t.Errorf("Get of %d bytes: %v, %d, %d", n, l, at, e)
		}
	}
}

func TestGetTooMuch(t *testing.T) {
	for _, b := range [][]byte{nil, {}} {
		if l, at, e := Get(b); len(l) != 0 || at != 0 || e != api.OK {
			t.Errorf("Get of nothing: %v, %d, %d", l, at, e)
		}
	}
	most := put(t, some(64)...)
	if l, at, e := Get(most); len(l) != 64 || l[63].Code != 64 || at != 0 || e != api.OK {
		t.Errorf("Get of MaxAvps: %d, %d, %d", len(l), at, e)
	}
	wrong(t, "one more", append(most, put(t, made(65, ""))...), 512, api.ErrLarge)
	wrong(t, "many more", append(most, most...), 512, api.ErrLarge)
	wrong(t, "a byte more", append(most, 0), 512, api.ErrLarge)
	wrong(t, "bytes of no AVP behind MaxAvps", append(most, unhex(t, "00000001 00000000")...), 512, api.ErrLarge)
	filled := put(t, append(some(63), api.Avp{Code: 64, Data: make([]byte, 9)})...)
	wrong(t, "one more behind filling bytes", append(filled, 1), 524, api.ErrLarge)
	full := put(t, made(1, strings.Repeat("x", 4088)))
	if l, at, e := Get(full); len(l) != 1 || len(l[0].Data) != 4088 || at != 0 || e != api.OK {
		t.Errorf("Get of MaxBytes: %d, %d, %d", len(l), at, e)
	}
	wrong(t, "a byte more than MaxBytes", append(full, 0), 0, api.ErrLarge)
	wrong(t, "MaxBytes and an AVP", append(full, put(t, made(1, ""))...), 0, api.ErrLarge)
	wrong(t, "zeros of more than MaxBytes", make([]byte, 4097), 0, api.ErrLarge)
	wrong(t, "zeros of MaxBytes", make([]byte, 4096), 0, api.ErrForm)
	wrong(t, "many bytes", bytes.Repeat([]byte{0xff}, 1<<20), 0, api.ErrLarge)
	wrong(t, "255 of MaxBytes", bytes.Repeat([]byte{0xff}, 4096), 0, api.ErrShort)
}

// random returns the bytes of AVPs, groups within groups, in which now and then a byte is another one.
func random(r *rand.Rand, depth int) []byte {
	var b []byte
	for range r.Intn(4) {
		a := api.Avp{Code: uint32(r.Intn(4)), Must: r.Intn(2) == 0, Protected: r.Intn(2) == 0, Data: make([]byte, r.Intn(6))}
		if r.Intn(5) == 0 {
			a.Vendor = uint32(r.Intn(3))
		}
		if depth > 0 && r.Intn(3) > 0 {
			a.Data = random(r, depth-1)
		}
		one, _ := plainPut([]api.Avp{a})
		b = append(b, one...)
	}
	if len(b) > 0 && r.Intn(20) == 0 {
		b[r.Intn(len(b))] = byte(r.Intn(20))
	}
	if len(b) > 0 && r.Intn(40) == 0 {
		b = b[:r.Intn(len(b))]
	}
	return b
}

func TestRandomBytes(t *testing.T) {
	r := rand.New(rand.NewSource(16))
	for range 30000 {
		b := random(r, r.Intn(10))
		gets(t, b)
		opens(t, b)
		opens(t, b, 1)
		opens(t, b, 3, 2, 1, 0, 2)
	}
}

func TestGetOfEveryNear(t *testing.T) {
	b := put(t, made(1, "abc"), api.Avp{Code: 2, Vendor: 1, Must: true, Data: []byte("d")}, made(3, ""))
	for i := range b {
		for x := range 256 {
			near := slices.Clone(b)
			near[i] = byte(x)
			gets(t, near)
		}
	}
}

func TestFitsOfSizes(t *testing.T) {
	for _, c := range []struct{ kind, size int }{
		{api.Integer32, 4}, {api.Unsigned32, 4}, {api.Float32, 4}, {api.Integer64, 8}, {api.Unsigned64, 8}, {api.Float64, 8},
	} {
		for n := range 20 {
			want := api.ErrShort
			if n == c.size {
				want = api.OK
			}
			for _, x := range []byte{0, 1, 0x7f, 0x80, 0xff} {
				if e := Fits(c.kind, bytes.Repeat([]byte{x}, n)); e != want {
					t.Errorf("Fits(%d, %d bytes of %d): %d, want %d", c.kind, n, x, e, want)
				}
			}
		}
		if e := Fits(c.kind, nil); e != api.ErrShort {
			t.Errorf("Fits(%d, nil): %d", c.kind, e)
		}
	}
	for _, f := range []string{"7ff00000", "ff800000", "7fc00000", "7f800001"} {
		if e := Fits(api.Float32, unhex(t, f)); e != api.OK {
			t.Errorf("Fits(Float32, %s): %d", f, e)
		}
	}
}

func TestFitsOfNoType(t *testing.T) {
	for _, kind := range []int{0, 12, -1, 13, 99, 256 + 2, 1<<32 + 1, math.MinInt, math.MaxInt} {
		for _, data := range []string{"", "a", "abcd", "abcdefgh", "\xff"} {
			if e := Fits(kind, []byte(data)); e != api.ErrArg {
				t.Errorf("Fits(%d, %q): %d", kind, data, e)
			}
		}
	}
	for kind := 1; kind <= 11; kind++ {
		if e := Fits(kind, []byte("abcdefghi")); e == api.ErrArg {
			t.Errorf("Fits(%d) knows no such type", kind)
		}
	}
}

func TestFitsOfOctets(t *testing.T) {
	for _, data := range [][]byte{nil, {}, {0}, {0xff, 0xfe}, make([]byte, 4096), make([]byte, 4097), make([]byte, 1<<20)} {
		if e := Fits(api.Octets, data); e != api.OK {
			t.Errorf("Fits(Octets, %d bytes): %d", len(data), e)
		}
	}
}

func TestFitsOfText(t *testing.T) {
	for _, s := range []string{"", "a", "\x00", "\x7f", "A b\n", "\u0080", "é", "\u07ff", "\u0800", "€", "\ud7ff", "\ue000", "\ufffd", "\uffff", "\U00010000", "😀", "\U0010ffff", strings.Repeat("é", 3000)} {
		if e := Fits(api.Text, []byte(s)); e != api.OK {
			t.Errorf("Fits(Text, %q): %d", s, e)
		}
	}
	for _, s := range []string{"\xff", "\x80", "\xbf", "a\x80", "\xc3", "\xc3a", "\xc0\x80", "\xc1\xbf", "\xe0\x80\x80", "\xe0\x9f\xbf", "\xe2\x82", "\xed\xa0\x80", "\xed\xbf\xbf", "\xf0\x80\x80\x80", "\xf0\x9f\x98", "\xf4\x90\x80\x80", "\xf5\x80\x80\x80", "\xfe", strings.Repeat("a", 5000) + "\xe2\x82"} {
		if e := Fits(api.Text, []byte(s)); e != api.ErrRange {
			t.Errorf("Fits(Text, %q): %d", s, e)
		}
	}
}

func TestFitsOfIdentity(t *testing.T) {
	good := "abcdefghijklmnopqrstuvwxyz0123456789.-"
	for x := range 256 {
		want := api.ErrRange
		if strings.IndexByte(good, byte(x)) >= 0 {
			want = api.OK
		}
		for _, s := range []string{"", "a", "ab"} {
			for _, end := range []string{"", "9", "9.-"} {
				data := append(append([]byte(s), byte(x)), end...)
				if e := Fits(api.Identity, data); e != want {
					t.Errorf("Fits(Identity, %q): %d, want %d", data, e, want)
				}
			}
		}
	}
	for n := range 100 {
		want := api.ErrRange
		if n >= 1 && n <= 32 {
			want = api.OK
		}
		if e := Fits(api.Identity, bytes.Repeat([]byte("h"), n)); e != want {
			t.Errorf("Fits(Identity, %d bytes): %d, want %d", n, e, want)
		}
	}
	for _, s := range []string{"Host", "höst", "a b", "a_b", "a\x00", "\xff", strings.Repeat("A", 33)} {
		if e := Fits(api.Identity, []byte(s)); e != api.ErrRange {
			t.Errorf("Fits(Identity, %q): %d", s, e)
		}
	}
	for _, s := range []string{"host.realm-1", ".", "-", "...", "0", good[:32], good[6:]} {
		if e := Fits(api.Identity, []byte(s)); e != api.OK {
			t.Errorf("Fits(Identity, %q): %d", s, e)
		}
	}
}

func TestFitsOfAddress(t *testing.T) {
	for n := range 40 {
		for first := range 3 {
			for second := range 256 {
				data := bytes.Repeat([]byte{0xff}, n)
				copy(data, []byte{byte(first), byte(second)})
				want := api.ErrRange
				if first == 0 && (n == 6 && second == 1 || n == 18 && second == 2) {
					want = api.OK
				}
				if e := Fits(api.Address, data); e != want {
					t.Errorf("Fits(Address, %x): %d, want %d", data, e, want)
				}
			}
		}
	}
	for _, s := range []string{"000100000000", "0002 00000000000000000000000000000001", "00017f000001"} {
		if e := Fits(api.Address, unhex(t, s)); e != api.OK {
			t.Errorf("Fits(Address, %s): %d", s, e)
		}
	}
	if e := Fits(api.Address, nil); e != api.ErrRange {
		t.Errorf("Fits(Address, nil): %d", e)
	}
}

func TestFitsOfGrouped(t *testing.T) {
	for _, b := range [][]byte{nil, {}, put(t, made(1, "a")), put(t, some(64)...), put(t, made(1, strings.Repeat("x", 4088))), unhex(t, "00000001 1f000009 61ffffff")} {
		if e := Fits(api.Grouped, b); e != api.OK {
			t.Errorf("Fits(Grouped, %x): %d", b, e)
		}
	}
	for _, c := range faults {
		for _, b := range [][]byte{unhex(t, c.b), append(put(t, made(1, "a")), unhex(t, c.b)...)} {
			if e := Fits(api.Grouped, b); e != api.ErrRange {
				t.Errorf("Fits(Grouped, %x): %d", b, e)
			}
		}
	}
	for _, b := range [][]byte{make([]byte, 4097), append(put(t, some(64)...), put(t, made(1, ""))...)} {
		if e := Fits(api.Grouped, b); e != api.ErrRange {
			t.Errorf("Fits(Grouped, %d bytes): %d", len(b), e)
		}
	}
	inner := put(t, made(279, "no AVP"))
	if e := Fits(api.Grouped, inner); e != api.OK {
		t.Errorf("Fits looks into a group within a group: %d", e)
	}
}

func TestLeast(t *testing.T) {
	want := []int{0, 0, 4, 8, 4, 8, 4, 8, 0, 0, 1, 6, 0, 0}
	for kind, n := range want {
		if got := Least(kind); got != n {
			t.Errorf("Least(%d): %d, want %d", kind, got, n)
		}
	}
	for _, kind := range []int{-1, -2, 14, 99, 1<<32 + 2, math.MinInt, math.MaxInt} {
		if got := Least(kind); got != 0 {
			t.Errorf("Least(%d): %d", kind, got)
		}
	}
	for kind := 1; kind <= 11; kind++ {
		if e := Fits(kind, make([]byte, Least(kind))); e == api.ErrShort || e == api.ErrArg {
			t.Errorf("Fits of %d zero bytes of the type %d: %d", Least(kind), kind, e)
		}
	}
}

// nested returns bytes within n groups of one Code.
func nested(t testing.TB, n int, code uint32, b []byte) []byte {
	for range n {
		b = put(t, api.Avp{Code: code, Data: b})
	}
	return b
}

func TestOpen(t *testing.T) {
	inner := put(t, made(1, "x"), api.Avp{Code: 2, Vendor: 3, Must: true})
	group := api.Avp{Code: 279, Protected: true, Data: inner}
	outer := api.Avp{Code: 5, Data: put(t, made(6, "y"), group, made(7, ""))}
	seller := api.Avp{Code: 279, Vendor: 1, Data: inner}
	b := put(t, made(1, "a"), outer, seller, group, made(8, "b"))
	first := []Item{{0, made(1, "a")}, {0, outer}}
	insideOuter := []Item{{1, made(6, "y")}, {1, group}}
	insideGroup := func(depth int) []Item {
		return []Item{{depth, made(1, "x")}, {depth, api.Avp{Code: 2, Vendor: 3, Must: true}}}
	}
	for _, c := range []struct {
		name   string
		groups []uint32
		want   []Item
	}{
		{"no groups", nil, slices.Concat(first, []Item{{0, seller}, {0, group}, {0, made(8, "b")}})},
		{"another group", []uint32{9}, slices.Concat(first, []Item{{0, seller}, {0, group}, {0, made(8, "b")}})},
		{"279", []uint32{279}, slices.Concat(first, []Item{{0, seller}, {0, group}}, insideGroup(1), []Item{{0, made(8, "b")}})},
		{"5", []uint32{5}, slices.Concat(first, insideOuter, []Item{{1, made(7, "")}, {0, seller}, {0, group}, {0, made(8, "b")}})},
		{"both", []uint32{279, 5}, slices.Concat(first, insideOuter, insideGroup(2), []Item{{1, made(7, "")}, {0, seller}, {0, group}}, insideGroup(1), []Item{{0, made(8, "b")}})},
		{"both, several times", []uint32{5, 279, 5, 279, 1000}, slices.Concat(first, insideOuter, insideGroup(2), []Item{{1, made(7, "")}, {0, seller}, {0, group}}, insideGroup(1), []Item{{0, made(8, "b")}})},
	} {
		l, e := Open(b, c.groups...)
		if !slices.EqualFunc(l, c.want, sameItem) || e != api.OK {
			t.Errorf("Open with %s: %v, %d, want %v", c.name, l, e, c.want)
		}
		opens(t, b, c.groups...)
	}
}

func TestOpenOfNothing(t *testing.T) {
	for _, b := range [][]byte{nil, {}} {
		if l, e := Open(b); len(l) != 0 || e != api.OK {
			t.Errorf("Open of nothing: %v, %d", l, e)
		}
		if l, e := Open(b, 0, 279); len(l) != 0 || e != api.OK {
			t.Errorf("Open of nothing: %v, %d", l, e)
		}
	}
	if l, e := Open(put(t, made(279, ""), made(0, "")), 279, 0); len(l) != 2 || l[1].Depth != 0 || e != api.OK {
		t.Errorf("Open of empty groups: %v, %d", l, e)
	}
	if l, e := Open(put(t, made(math.MaxUint32, string(put(t, made(1, ""))))), math.MaxUint32); len(l) != 2 || l[1].Depth != 1 || e != api.OK {
		t.Errorf("Open of the greatest Code: %v, %d", l, e)
	}
}

func TestOpenAnswersTheErrorOfGet(t *testing.T) {
	for _, c := range faults {
		if l, e := Open(unhex(t, c.b), 1); l != nil || e != c.want {
			t.Errorf("Open of %s: %v, %d, want %d", c.name, l, e, c.want)
		}
		deep := nested(t, 9, 279, put(t, made(1, "")))
		if l, e := Open(append(deep, unhex(t, c.b)...), 279); l != nil || e != c.want {
			t.Errorf("Open of %s behind what is too deep: %v, %d, want %d", c.name, l, e, c.want)
		}
	}
	if l, e := Open(make([]byte, 4097)); l != nil || e != api.ErrLarge {
		t.Errorf("Open of more than MaxBytes: %v, %d", l, e)
	}
	if l, e := Open(append(put(t, some(64)...), put(t, made(1, ""))...)); l != nil || e != api.ErrLarge {
		t.Errorf("Open of more than MaxAvps: %v, %d", l, e)
	}
}

func TestOpenDeep(t *testing.T) {
	leaf := put(t, made(1, "x"))
	for n := range 20 {
		b := nested(t, n, 279, leaf)
		l, e := Open(b, 279)
		if n <= 7 && (len(l) != n+1 || l[n].Depth != n || l[n].Avp.Code != 1 || e != api.OK) {
			t.Errorf("Open of %d groups: %v, %d", n, l, e)
		}
		if n > 7 && (l != nil || e != api.ErrDeep) {
			t.Errorf("Open of %d groups: %v, %d", n, l, e)
		}
		if l, e := Open(b); len(l) != 1 || e != api.OK {
			t.Errorf("Open of %d groups that aren't opened: %v, %d", n, l, e)
		}
		if l, e := Open(b, 280); len(l) != 1 || e != api.OK {
			t.Errorf("Open of %d groups, where others are opened: %v, %d", n, l, e)
		}
	}
	if l, e := Open(nested(t, 8, 279, nil), 279); len(l) != 8 || l[7].Depth != 7 || e != api.OK {
		t.Errorf("Open of an empty group at the greatest Depth: %v, %d", l, e)
	}
	if l, e := Open(nested(t, 9, 279, nil), 279); l != nil || e != api.ErrDeep {
		t.Errorf("Open of an empty group below the greatest Depth: %v, %d", l, e)
	}
	seller := put(t, api.Avp{Code: 279, Vendor: 1, Data: leaf})
	if l, e := Open(nested(t, 7, 279, seller), 279); len(l) != 8 || e != api.OK {
		t.Errorf("Open of a group with a Vendor at the greatest Depth: %v, %d", l, e)
	}
}

func TestOpenOfDataThatCannotBeRead(t *testing.T) {
	for _, c := range faults {
		for n := range 9 {
			fault := put(t, made(1, ""), api.Avp{Code: 279, Data: unhex(t, c.b)}, made(1, ""))
			want := api.ErrForm
			if n == 8 {
				want = api.ErrDeep
			}
			if l, e := Open(nested(t, n, 279, fault), 279); l != nil || e != want {
				t.Errorf("Open of %s within %d groups: %v, %d, want %d", c.name, n, l, e, want)
			}
		}
		if l, e := Open(put(t, made(279, string(unhex(t, c.b)))), 278); len(l) != 1 || e != api.OK {
			t.Errorf("Open looks into what is no group: %v, %d", l, e)
		}
		if l, e := Open(put(t, api.Avp{Code: 279, Vendor: 1, Data: unhex(t, c.b)}), 279); len(l) != 1 || e != api.OK {
			t.Errorf("Open looks into what has a Vendor: %v, %d", l, e)
		}
	}
	more := append(put(t, some(64)...), put(t, made(1, ""))...)
	if l, e := Open(put(t, made(279, string(more))), 279); l != nil || e != api.ErrForm {
		t.Errorf("Open of a group of more than MaxAvps: %v, %d", l, e)
	}
}

// laid returns groups that have so many AVPs each.
func laid(t testing.TB, counts ...int) []api.Avp {
	var list []api.Avp
	for _, n := range counts {
		list = append(list, api.Avp{Code: 279, Data: put(t, some(n)...)})
	}
	return list
}

func TestOpenTooMuch(t *testing.T) {
	for _, c := range []struct {
		name  string
		list  []api.Avp
		count int // of Items, or 0 if they are too many
	}{
		{"4 MaxAvps", laid(t, 63, 63, 63, 63), 256},
		{"one more within", laid(t, 63, 63, 63, 64), 0},
		{"one more behind", append(laid(t, 63, 63, 63, 63), made(1, "")), 0},
		{"4 MaxAvps, the last one outside", append(laid(t, 63, 63, 63, 62), made(1, "")), 256},
		{"many more", laid(t, 64, 64, 64, 64, 64), 0},
		{"groups without AVPs", laid(t, make([]int, 64)...), 64},
	} {
		l, e := Open(put(t, c.list...), 279)
		if c.count == 0 && (l != nil || e != api.ErrLarge) || c.count != 0 && (len(l) != c.count || e != api.OK) {
			t.Errorf("Open of %s: %d, %d", c.name, len(l), e)
		}
		opens(t, put(t, c.list...), 279)
	}
}

func TestOpenAnswersTheFirstError(t *testing.T) {
	deep := api.Avp{Code: 279, Data: nested(t, 7, 279, put(t, made(1, "")))} // its ninth Item is too deep
	bad := api.Avp{Code: 279, Data: []byte{1}}
	full := laid(t, 63, 63, 63, 63)
	for _, c := range []struct {
		name string
		list []api.Avp
		want api.Errno
	}{
		{"deep, bad", []api.Avp{deep, bad}, api.ErrDeep},
		{"bad, deep", []api.Avp{bad, deep}, api.ErrForm},
		{"large, bad", append(slices.Clone(full), made(1, ""), bad), api.ErrLarge},
		{"bad, large", append([]api.Avp{bad}, full...), api.ErrForm},
		{"deep, large", append([]api.Avp{deep}, full...), api.ErrDeep},
		{"large, deep", append(slices.Clone(full), deep), api.ErrLarge},
		{"bad as the first one beyond 4 MaxAvps", append(slices.Clone(full), bad), api.ErrLarge},
		{"bad within, behind one that is deep", []api.Avp{{Code: 279, Data: put(t, deep, bad)}}, api.ErrDeep},
		{"bad as the last of 4 MaxAvps", append(laid(t, 63, 63, 63, 62), bad), api.ErrForm},
		{"bad ahead of the end of 4 MaxAvps and one more", append(laid(t, 63, 63, 63, 61), bad, made(1, ""), made(1, "")), api.ErrForm},
		{"deep and bad in one", []api.Avp{{Code: 279, Data: nested(t, 7, 279, append(put(t, made(1, "")), 1))}}, api.ErrForm},
		{"bad ahead of deep", []api.Avp{{Code: 5, Data: put(t, bad)}, deep}, api.ErrDeep},
	} {
		b := put(t, c.list...)
		if l, e := Open(b, 279); l != nil || e != c.want {
			t.Errorf("Open of %s: %v, %d, want %d", c.name, l, e, c.want)
		}
		opens(t, b, 279)
	}
	b := put(t, append(append(laid(t, 63, 63, 63), some(56)...), deep)...) // 192 Items, 56, and 8 ahead of the one that is too deep
	if l, e := Open(b, 279); l != nil || e != api.ErrDeep {
		t.Errorf("Open of an Item that is too deep and one too many: %d, %d", len(l), e)
	}
	opens(t, b, 279)
}

// spare returns the bytes of s with room behind them, which is marked.
func spare(s string) []byte {
	b := []byte(s + strings.Repeat("\xaa", 16))
	return b[:len(s)]
}

// untouched reports whether b holds s, and the room behind it its marks.
func untouched(b []byte, s string) bool {
	return string(b[:len(s)+16]) == s+strings.Repeat("\xaa", 16)
}

func TestArgumentsAreLeftAlone(t *testing.T) {
	v, w := spare("abc"), spare("de")
	list := append(make([]api.Avp, 0, 8), api.Avp{Code: 1, Data: v}, api.Avp{Code: 2, Vendor: 3, Data: w})
	b, _ := Put(list...)
	if !untouched(v, "abc") || !untouched(w, "de") || list[0].Code != 1 || list[1].Code != 2 || !reflect.DeepEqual(list[:3][2], api.Avp{}) {
		t.Errorf("Put changed its arguments")
	}
	inner := string(b)
	outer := string(put(t, api.Avp{Code: 279, Data: b}))
	for _, s := range []string{"", "a", inner, outer, outer + "x"} {
		x := spare(s)
		groups := append(make([]uint32, 0, 4), 279, 5)
		Get(x)
		Open(x, groups...)
		for kind := range 13 {
			Fits(kind, x)
		}
		if !untouched(x, s) || !slices.Equal(groups[:4], []uint32{279, 5, 0, 0}) {
			t.Errorf("an argument of %x changed", s)
		}
	}
}

// spoil writes over all that b can reach.
func spoil(b []byte) {
	b = b[:cap(b)]
	for i := range b {
		b[i] = 0xee
	}
}

func TestResultsShareNoMemory(t *testing.T) {
	v := spare("abcd")
	b, _ := Put(api.Avp{Code: 1, Data: v}, api.Avp{Code: 2, Data: v})
	spoil(v)
	if want := unhex(t, "00000001 0000000c 61626364 00000002 0000000c 61626364"); !bytes.Equal(b, want) {
		t.Errorf("Put keeps its argument: %x", b)
	}
	l, _, _ := Get(b)
	again, _, _ := Get(b)
	clean := slices.Clone(b)
	spoil(b)
	spoil(again[1].Data)
	spoil(l[0].Data)
	if string(l[1].Data) != "abcd" {
		t.Errorf("Get's results share memory: %v", l)
	}
	two := put(t, api.Avp{Code: 279, Data: clean}, made(1, "abcd"))
	for i := range 4 {
		whole := slices.Clone(two)
		items, _ := Open(whole, 279)
		others, _ := Open(whole, 279)
		spoil(whole)
		for j := range others {
			spoil(others[j].Avp.Data)
			if j != i {
				spoil(items[j].Avp.Data)
			}
		}
		if strings.Contains(string(items[i].Avp.Data), "\xee") {
			t.Errorf("Open's results share memory: %x", items[i].Avp.Data)
		}
	}
}

func TestTwiceTheSame(t *testing.T) {
	deep := nested(t, 9, 279, nil)
	for range 3 {
		b, e := Put(made(279, "\x00\x00\x00\x01\x00\x00\x00\x08"), made(4, "d"))
		l, at, f := Get(b)
		items, g := Open(b, 279)
		if hex.EncodeToString(b) != "00000117000000100000000100000008000000040000000964000000" || len(l) != 2 || at != 0 || e != api.OK || f != api.OK {
			t.Fatalf("Put, Get: %x, %d, %v, %d", b, e, l, f)
		}
		if len(items) != 3 || items[1].Depth != 1 || g != api.OK {
			t.Fatalf("Open: %v, %d", items, g)
		}
		if items, e := Open(deep, 279); items != nil || e != api.ErrDeep {
			t.Fatalf("Open: %v, %d", items, e)
		}
	}
}

func FuzzAnyArguments(f *testing.F) {
	f.Add([]byte("\x00\x00\x01\x07\x40\x00\x00\x0aab\x00\x00\x00\x00\x00\x01\xa0\x00\x00\x0c\x00\x00\x00\x09"), 3, uint32(263), uint32(0), true)
	f.Add([]byte("\x00\x00\x01\x17\x00\x00\x00\x10\x00\x00\x00\x01\x00\x00\x00\x08"), 8, uint32(279), uint32(5), false)
	f.Add([]byte("\x00\x01abcd"), 11, uint32(0), uint32(1<<31), false)
	f.Fuzz(func(t *testing.T, b []byte, kind int, code, vendor uint32, must bool) {
		was := string(b)
		gets(t, b)
		opens(t, b)
		opens(t, b, code, vendor, 279)
		a := api.Avp{Code: code, Vendor: vendor, Must: must, Protected: kind%2 == 0, Data: b}
		puts(t, a)
		puts(t, a, made(vendor, "x"), a)
		if e := Fits(kind, b); (e == api.ErrArg) != (kind < 1 || kind > 11) {
			t.Fatalf("Fits(%d, %x): %d", kind, b, e)
		}
		if n := Least(kind); n < 0 || n > 8 {
			t.Fatalf("Least(%d): %d", kind, n)
		}
		if string(b) != was {
			t.Fatalf("the argument changed")
		}
	})
}
