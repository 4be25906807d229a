package msg

import (
	"encoding/binary"
	"math"
	"slices"
	"strings"
	"testing"

	"trunkline/api"
	"trunkline/avp"
	"trunkline/dict"
)

// finds holds Find and Code against plain ones, for each Code that m has and for others.
func finds(t testing.TB, m api.Msg) {
	t.Helper()
	codes := []uint32{0, 1, api.ResultCode, math.MaxUint32}
	for _, a := range m.Avps {
		codes = append(codes, a.Code, a.Code+1)
	}
	for _, code := range codes {
		data, there := "", false
		for _, a := range slices.Backward(m.Avps) {
			if a.Code == code && a.Vendor == 0 {
				data, there = string(a.Data), true
			}
		}
		if got, ok := Find(m, code); string(got) != data || ok != there || !ok && got != nil {
			t.Fatalf("Find(%v, %d): %x, %t, want %x, %t", m, code, got, ok, data, there)
		}
	}
	want := 0
	for _, a := range slices.Backward(m.Avps) {
		if a.Code == 268 && a.Vendor == 0 && len(a.Data) == 4 {
			want = int(binary.BigEndian.Uint32(a.Data))
		}
	}
	if got := Code(m); got != want {
		t.Fatalf("Code(%v): %d, want %d", m, got, want)
	}
}

// answers holds Answer against a plain one.
func answers(t testing.TB, m api.Msg, code int, host, realm string, more ...api.Avp) {
	t.Helper()
	n := uint32(0)
	if code > 0 && code <= math.MaxUint32 {
		n = uint32(code)
	}
	want := api.Msg{Proxiable: m.Proxiable, Failed: code/1000 == 3, Code: m.Code, App: m.App, Hop: m.Hop, End: m.End}
	want.Avps = append(want.Avps, api.Avp{Code: 268, Must: true, Data: binary.BigEndian.AppendUint32(nil, n)})
	want.Avps = append(want.Avps, api.Avp{Code: 264, Must: true, Data: []byte(host)})
	want.Avps = append(want.Avps, api.Avp{Code: 296, Must: true, Data: []byte(realm)})
	want.Avps = append(want.Avps, more...)
	a := Answer(m, code, host, realm, more...)
	if !same(a, want) {
		t.Fatalf("Answer(%v, %d, %q, %q, %v): %v, want %v", m, code, host, realm, more, a, want)
	}
	if got := Code(a); got != int(n) {
		t.Fatalf("Code of Answer(%v, %d): %d", m, code, got)
	}
}

// bases checks that Base answers what the chapter says, rule by rule.
func bases(t testing.TB, code uint32) {
	t.Helper()
	rule := func(code uint32, kind, least, most int) api.Rule {
		return api.Rule{Code: code, Type: kind, Must: true, Least: least, Most: most}
	}
	want := []api.Rule{rule(264, 10, 1, 1), rule(296, 10, 1, 1), rule(278, 4, 0, 1)}
	switch code {
	case 257, 280, 282:
	case 9300:
		want = append(want, rule(283, 10, 1, 1), rule(293, 10, 0, 1), rule(282, 10, 0, 56), rule(9100, 1, 1, 1))
	default:
		want = nil
	}
	if got := Base(code); !slices.Equal(got, want) {
		t.Fatalf("Base(%d): %v, want %v", code, got, want)
	}
}

func TestFind(t *testing.T) {
	seller := api.Avp{Code: 5, Vendor: 1, Data: []byte("of a vendor")}
	for _, c := range []struct {
		name  string
		list  []api.Avp
		want  string
		there bool
	}{
		{"no AVPs", nil, "", false},
		{"empty AVPs", []api.Avp{}, "", false},
		{"others alone", []api.Avp{made(4, "a"), made(6, "b")}, "", false},
		{"one", []api.Avp{made(5, "a")}, "a", true},
		{"one among others", []api.Avp{made(4, "a"), made(5, "b"), made(6, "c")}, "b", true},
		{"several", []api.Avp{made(5, "a"), made(5, "b"), made(5, "c")}, "a", true},
		{"several behind another one", []api.Avp{made(7, "x"), made(5, "b"), made(5, "a")}, "b", true},
		{"one with a Vendor alone", []api.Avp{seller}, "", false},
		{"one with a Vendor ahead", []api.Avp{seller, made(5, "a")}, "a", true},
		{"one with a Vendor behind", []api.Avp{made(5, "a"), seller}, "a", true},
		{"several with Vendors around", []api.Avp{seller, seller, made(5, "a"), seller, made(5, "b")}, "a", true},
		{"no bytes", []api.Avp{made(5, "")}, "", true},
		{"nil bytes", []api.Avp{{Code: 5}}, "", true},
		{"no bytes ahead of some", []api.Avp{made(5, ""), made(5, "a")}, "", true},
		{"each flag", []api.Avp{{Code: 5, Must: true, Protected: true, Data: []byte("a")}, made(5, "b")}, "a", true},
		{"many bytes", []api.Avp{made(5, strings.Repeat("x", 5000))}, strings.Repeat("x", 5000), true},
		{"behind many", append(slices.Repeat([]api.Avp{seller}, 1000), made(5, "a")), "a", true},
	} {
		for _, m := range []api.Msg{{Avps: c.list}, {Request: true, Failed: true, Code: 5, Avps: c.list}} {
			if b, ok := Find(m, 5); string(b) != c.want || ok != c.there || !ok && b != nil {
				t.Errorf("Find of %s: %x, %t, want %x, %t", c.name, b, ok, c.want, c.there)
			}
			finds(t, m)
		}
	}
	for _, code := range []uint32{0, 5, math.MaxUint32} {
		if b, ok := Find(api.Msg{}, code); b != nil || ok {
			t.Errorf("Find in nothing: %x, %t", b, ok)
		}
	}
	if b, ok := Find(api.Msg{Avps: []api.Avp{made(math.MaxUint32, "a"), made(0, "b")}}, 0); string(b) != "b" || !ok {
		t.Errorf("Find of the Code 0: %x, %t", b, ok)
	}
}

func TestCode(t *testing.T) {
	code := func(data string) api.Avp { return made(268, data) }
	seller := api.Avp{Code: 268, Vendor: 1, Data: []byte("\x00\x00\x07\xd1")}
	for _, c := range []struct {
		name string
		list []api.Avp
		want int
	}{
		{"nothing", nil, 0},
		{"others alone", []api.Avp{made(267, "abcd"), made(269, "abcd"), seller}, 0},
		{"4 bytes", []api.Avp{code("\x00\x00\x07\xd1")}, 2001},
		{"each of the bytes", []api.Avp{code("\x01\x02\x03\x04")}, 0x01020304},
		{"0", []api.Avp{code("\x00\x00\x00\x00")}, 0},
		{"2^31", []api.Avp{code("\x80\x00\x00\x00")}, 1 << 31},
		{"2^32 - 1", []api.Avp{code("\xff\xff\xff\xff")}, 1<<32 - 1},
		{"no bytes", []api.Avp{code("")}, 0},
		{"3 bytes", []api.Avp{code("\x00\x07\xd1")}, 0},
		{"5 bytes", []api.Avp{code("\x00\x00\x07\xd1\x00")}, 0},
		{"5 bytes that begin with 0", []api.Avp{code("\x00\x00\x00\x07\xd1")}, 0},
		{"8 bytes", []api.Avp{code("\x00\x00\x07\xd1\x00\x00\x07\xd1")}, 0},
		{"two", []api.Avp{code("\x00\x00\x07\xd1"), code("\x00\x00\x0b\xba")}, 2001},
		{"two, the other way round", []api.Avp{code("\x00\x00\x0b\xba"), code("\x00\x00\x07\xd1")}, 3002},
		{"two, the first one 0", []api.Avp{code("\x00\x00\x00\x00"), code("\x00\x00\x07\xd1")}, 0},
		{"two, the second one of 3 bytes", []api.Avp{code("\x00\x00\x07\xd1"), code("\x00\x0b\xba")}, 2001},
		{"two, the first one of 3 bytes", []api.Avp{code("\x00\x0b\xba"), code("\x00\x00\x07\xd1")}, 2001},
		{"two, none of 4 bytes", []api.Avp{code("\x00\x0b\xba"), code("")}, 0},
		{"one with a Vendor ahead", []api.Avp{seller, code("\x00\x00\x0b\xba")}, 3002},
		{"among others", []api.Avp{made(1, "abcd"), code("\x00\x00\x07\xd1"), made(2, "abcd")}, 2001},
		{"each flag", []api.Avp{{Code: 268, Must: true, Protected: true, Data: []byte("\x00\x00\x07\xd1")}}, 2001},
	} {
		for _, m := range []api.Msg{{Avps: c.list}, {Request: true, Code: 3001, Avps: c.list}} {
			if n := Code(m); n != c.want {
				t.Errorf("Code of %s: %d, want %d", c.name, n, c.want)
			}
			finds(t, m)
		}
	}
}

func TestAnswerOfCodes(t *testing.T) {
	for _, c := range []struct {
		code   int
		data   string
		failed bool
	}{
		{0, "\x00\x00\x00\x00", false},
		{1, "\x00\x00\x00\x01", false},
		{-1, "\x00\x00\x00\x00", false},
		{-3000, "\x00\x00\x00\x00", false},
		{-1 << 32, "\x00\x00\x00\x00", false},
		{math.MinInt, "\x00\x00\x00\x00", false},
		{2001, "\x00\x00\x07\xd1", false},
		{2999, "\x00\x00\x0b\xb7", false},
		{3000, "\x00\x00\x0b\xb8", true},
		{3002, "\x00\x00\x0b\xba", true},
		{3999, "\x00\x00\x0f\x9f", true},
		{4000, "\x00\x00\x0f\xa0", false},
		{5001, "\x00\x00\x13\x89", false},
		{9001, "\x00\x00\x23\x29", false},
		{30000, "\x00\x00\x75\x30", false},
		{1 << 31, "\x80\x00\x00\x00", false},
		{1<<32 - 1, "\xff\xff\xff\xff", false},
		{1 << 32, "\x00\x00\x00\x00", false},
		{1<<32 + 3002, "\x00\x00\x00\x00", false},
		{math.MaxInt, "\x00\x00\x00\x00", false},
	} {
		a := Answer(example(), c.code, "h", "r")
		if len(a.Avps) != 3 || !sameAvp(a.Avps[0], api.Avp{Code: 268, Must: true, Data: []byte(c.data)}) || a.Failed != c.failed {
			t.Errorf("Answer with %d: %v", c.code, a)
		}
		answers(t, example(), c.code, "h", "r")
		puts(t, a)
	}
	for code := 2990; code < 4010; code++ {
		answers(t, api.Msg{}, code, "h", "r")
	}
}

func TestAnswer(t *testing.T) {
	m := api.Msg{Request: true, Proxiable: true, Failed: true, Again: true, Code: 257, App: 4, Hop: 5, End: 6, Avps: []api.Avp{made(1, "x"), made(268, "abcd")}}
	a := Answer(m, 2001, "a.host", "realm", made(9100, "did"), api.Avp{Code: 8, Vendor: 9, Protected: true})
	want := api.Msg{Proxiable: true, Code: 257, App: 4, Hop: 5, End: 6, Avps: []api.Avp{
		{Code: 268, Must: true, Data: []byte("\x00\x00\x07\xd1")},
		{Code: 264, Must: true, Data: []byte("a.host")},
		{Code: 296, Must: true, Data: []byte("realm")},
		made(9100, "did"),
		{Code: 8, Vendor: 9, Protected: true},
	}}
	if !same(a, want) {
		t.Errorf("Answer: %v, want %v", a, want)
	}
	if b, e := Put(a); len(b) != 88 || e != api.OK {
		t.Errorf("Put of it: %x, %d", b, e)
	}
}

func TestAnswerOfEverySetOfFlags(t *testing.T) {
	for bits := 0; bits < 256; bits += 16 {
		for _, code := range []int{2001, 3001, 5005} {
			m := flagged(bits)
			m.Code, m.App, m.Hop, m.End = 1<<24-1, 1, 2, 3
			a := Answer(m, code, "h", "r")
			if a.Request || a.Again || a.Proxiable != (bits&64 != 0) || a.Failed != (code == 3001) {
				t.Errorf("Answer of the flags %d with %d: %v", bits, code, a)
			}
			answers(t, m, code, "h", "r")
			puts(t, a)
		}
	}
}

func TestAnswerOfWhatIsAdded(t *testing.T) {
	vendor := api.Avp{Code: 268, Vendor: 7, Must: true, Protected: true, Data: []byte("abc")}
	for _, m := range []api.Msg{{}, example(), {Code: math.MaxUint32, App: math.MaxUint32, Hop: math.MaxUint32, End: math.MaxUint32}} {
		for _, more := range [][]api.Avp{nil, {}, {{}}, {made(1, "a")}, {made(2, "a"), vendor, made(2, "")}, {made(268, "abcd"), made(264, "x")}, make([]api.Avp, 200)} {
			for _, name := range []string{"", "a", "host.realm", "\x00\xff", "Größe", strings.Repeat("x", 5000)} {
				answers(t, m, 2001, name, "r", more...)
				answers(t, m, 2001, "h", name, more...)
				answers(t, m, 3004, name, name, more...)
			}
		}
	}
	a := Answer(api.Msg{}, 5005, "", "")
	if b := put(t, a); len(b) != 48 {
		t.Errorf("an answer of a host and realm without bytes: %x", b)
	}
}

func TestAnswersShareNoMemory(t *testing.T) {
	v := spare("abcd")
	m := api.Msg{Code: 5, Avps: []api.Avp{{Code: api.ResultCode, Data: v}}}
	found, _ := Find(m, api.ResultCode)
	other, _ := Find(m, api.ResultCode)
	spoil(other)
	if string(found) != "abcd" || !untouched(v, "abcd") {
		t.Errorf("Find's answer shares memory: %x, %x", found, v)
	}
	more := []api.Avp{{Code: 1, Data: v}, {Code: 2, Data: v}}
	want := Answer(m, 2001, "host", "realm", made(1, "abcd"), made(2, "abcd"))
	a, b := Answer(m, 2001, "host", "realm", more...), Answer(m, 2001, "host", "realm", more...)
	spoilAll(b)
	if !same(a, want) || !untouched(v, "abcd") || len(more) != 2 || more[0].Code != 1 || more[1].Code != 2 {
		t.Errorf("an answer shares memory with another one, or with what was added: %v, %v", a, more)
	}
	for i := range 5 {
		a := Answer(m, 2001, "host", "realm", more...)
		for j := range a.Avps {
			if j != i {
				spoil(a.Avps[j].Data)
			}
		}
		if !sameAvp(a.Avps[i], want.Avps[i]) {
			t.Errorf("the AVPs of an answer share memory: %v", a)
		}
	}
	spoil(v)
	spoilAll(api.Msg{Avps: more})
	if !same(a, want) || string(found) != "abcd" {
		t.Errorf("an answer shares memory with its argument: %v, %x", a, found)
	}
}

func TestBase(t *testing.T) {
	for code := range uint32(10000) {
		bases(t, code)
	}
	for _, code := range []uint32{1 << 16, 1<<16 + 257, 1<<24 - 1, 1 << 24, 1<<24 + 257, 1 << 31, math.MaxUint32} {
		bases(t, code)
	}
	for _, code := range []uint32{0, 1, 256, 258, 279, 281, 283, 9299, 9301} {
		if r := Base(code); r != nil {
			t.Errorf("Base(%d): %v", code, r)
		}
	}
	for code, n := range map[uint32]int{257: 3, 280: 3, 282: 3, 9300: 7} {
		if r := Base(code); len(r) != n || !dict.Sound(r) {
			t.Errorf("Base(%d): %v", code, r)
		}
	}
}

// TestBaseSharesNoMemory: who changes the rules that were answered changes no others.
func TestBaseSharesNoMemory(t *testing.T) {
	for _, code := range []uint32{257, 280, 282, 9300} {
		r := Base(code)
		r = r[:cap(r)]
		for i := range r {
			r[i] = api.Rule{Code: 99, Type: 99}
		}
		for _, other := range []uint32{257, 280, 282, 9300} {
			bases(t, other)
		}
	}
}

// TestBaseJudges: the rules are what a request of the command is held against.
func TestBaseJudges(t *testing.T) {
	host, realm, state := made(264, "h"), made(296, "r"), made(278, "\x00\x00\x00\x01")
	dest, to, route, payload := made(283, "r"), made(293, "h"), made(282, "h"), made(9100, "")
	for _, c := range []struct {
		name string
		code uint32
		list []api.Avp
		want int
	}{
		{"a hello", 257, []api.Avp{host, realm, state}, api.Success},
		{"a watch without state", 280, []api.Avp{realm, host}, api.Success},
		{"a leave of two states", 282, []api.Avp{host, realm, state, state}, api.TooMany},
		{"a hello without a host", 257, []api.Avp{realm, state}, api.Missing},
		{"a state of 3 bytes", 257, []api.Avp{host, realm, made(278, "abc")}, api.BadLength},
		{"work", 9300, []api.Avp{host, realm, dest, payload}, api.Success},
		{"work of all", 9300, append([]api.Avp{host, realm, state, dest, to, payload}, slices.Repeat([]api.Avp{route}, 56)...), api.Success},
		{"work of too long a route", 9300, append([]api.Avp{host, realm, dest, payload}, slices.Repeat([]api.Avp{route}, 57)...), api.TooMany},
		{"work without a Payload", 9300, []api.Avp{host, realm, dest}, api.Missing},
		{"work of two hosts", 9300, []api.Avp{host, realm, dest, to, to, payload}, api.TooMany},
		{"work for a realm that is no name", 9300, []api.Avp{host, realm, made(283, "R"), payload}, api.Invalid},
	} {
		if code, failed, e := dict.Judge(Base(c.code), c.list); code != c.want || e != api.OK {
			t.Errorf("%s: %d, %v, %d, want %d", c.name, code, failed, e, c.want)
		}
	}
	_, failed, _ := dict.Judge(Base(9300), nil)
	if len(failed) != 1 || !sameAvp(failed[0], api.Avp{Code: 264, Must: true, Data: make([]byte, avp.Least(api.Identity))}) {
		t.Errorf("of nothing, what is missing: %v", failed)
	}
}
