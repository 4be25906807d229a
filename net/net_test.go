package net

import (
	"bytes"
	"math"
	"math/rand"
	"slices"
	"strings"
	"testing"

	"trunkline/api"
)

// extremes: numbers of hosts, paths, frames and bytes that no caller would think of.
var extremes = []int{math.MinInt, math.MinInt + 1, math.MinInt32, -1 << 32, -256, -2, -1, 9, 256, 1024, 1 << 32, math.MaxInt32, math.MaxInt - 1, math.MaxInt}

// packet is a frame whose bytes can't be shared.
type packet struct {
	from, to api.Addr
	text     string
	turned   bool
}

// model does what the chapter asks in the plainest way: its frames are values, and each path of each pair of hosts has a mark of its own.
type model struct {
	hosts   int
	packets []packet
	down    [8][8][2]bool
}

func (m *model) valid(a api.Addr) bool {
	return a.Host >= 0 && a.Host < m.hosts && (a.Path == 0 || a.Path == 1)
}

func (m *model) send(from, to api.Addr, b []byte) api.Errno {
	switch {
	case !m.valid(from), !m.valid(to), from.Host == to.Host:
		return api.ErrArg
	case len(b) > 4096:
		return api.ErrLarge
	case m.down[from.Host][to.Host][from.Path], len(m.packets) == 1024:
		return api.OK
	}
	m.packets = append(m.packets, packet{from, to, string(b), false})
	return api.OK
}

func (m *model) take(k int) (packet, api.Errno) {
	if k < 0 || k >= len(m.packets) {
		return packet{}, api.ErrNone
	}
	p := m.packets[k]
	var rest []packet
	for i, x := range m.packets {
		if i != k {
			rest = append(rest, x)
		}
	}
	m.packets = rest
	return p, api.OK
}

func (m *model) twin(k int) api.Errno {
	if k < 0 || k >= len(m.packets) {
		return api.ErrNone
	}
	if len(m.packets) == 1024 {
		return api.ErrFull
	}
	m.packets = append(m.packets, m.packets[k])
	return api.OK
}

func (m *model) last(k int) api.Errno {
	p, e := m.take(k)
	if e == api.OK {
		m.packets = append(m.packets, p)
	}
	return e
}

func (m *model) turn(k, at int, bits uint8) api.Errno {
	if k < 0 || k >= len(m.packets) {
		return api.ErrNone
	}
	p := m.packets[k]
	if bits == 0 || at < 0 || at >= len(p.text) {
		return api.ErrArg
	}
	if p.turned {
		return api.ErrState
	}
	m.packets[k].text = p.text[:at] + string([]byte{p.text[at] ^ bits}) + p.text[at+1:]
	m.packets[k].turned = true
	return api.OK
}

func (m *model) cut(from, to, path int, down bool) api.Errno {
	if !m.valid(api.Addr{Host: from, Path: path}) || !m.valid(api.Addr{Host: to, Path: path}) || from == to {
		return api.ErrArg
	}
	m.down[from][to][path] = down
	return api.OK
}

// told returns a frame as the model has it.
func told(f api.Frame) packet {
	return packet{f.From, f.To, string(f.Bytes), f.Turned}
}

// address returns a host and its path.
func address(host, path int) api.Addr {
	return api.Addr{Host: host, Path: path}
}

// made returns a Net of this many hosts.
func made(t *testing.T, hosts int) *Net {
	t.Helper()
	n, e := New(hosts)
	if e != api.OK || n == nil {
		t.Fatalf("New(%d) = %v, %d", hosts, n, e)
	}
	return n
}

// with returns a Net of two hosts, and these texts in transit from path 0 of the first to path 1 of the second.
func with(t *testing.T, texts ...string) *Net {
	t.Helper()
	n := made(t, 2)
	for _, x := range texts {
		if e := n.Send(address(0, 0), address(1, 1), []byte(x)); e != api.OK {
			t.Fatalf("Send of %q = %d", x, e)
		}
	}
	return n
}

// full returns a Net with room for no frame: the bytes of each are its number.
func full(t *testing.T) *Net {
	t.Helper()
	n := made(t, 2)
	for i := range 1024 {
		if e := n.Send(address(0, 0), address(1, 1), []byte{byte(i >> 8), byte(i)}); e != api.OK || n.Len() != i+1 {
			t.Fatalf("Send of frame %d = %d, and %d are in transit", i, e, n.Len())
		}
	}
	return n
}

// holds checks that these frames are in transit and no others, in this order.
func holds(t *testing.T, n *Net, want ...packet) {
	t.Helper()
	var got []packet
	for _, f := range n.List() {
		got = append(got, told(f))
	}
	if !slices.Equal(got, want) {
		t.Errorf("List() = %v, want %v", got, want)
	}
	if n.Len() != len(want) {
		t.Errorf("Len() = %d, want %d", n.Len(), len(want))
	}
}

// texts checks that the frames of a Net of the function with have these texts: a text with a leading ! is that of a frame that is Turned.
func texts(t *testing.T, n *Net, want ...string) {
	t.Helper()
	var list []packet
	for _, x := range want {
		text, turned := strings.CutPrefix(x, "!")
		list = append(list, packet{address(0, 0), address(1, 1), text, turned})
	}
	holds(t, n, list...)
}

// wants checks an error.
func wants(t *testing.T, call string, got, want api.Errno) {
	t.Helper()
	if got != want {
		t.Errorf("%s = %d, want %d", call, got, want)
	}
}

func TestExample(t *testing.T) {
	n := with(t, "one", "two")
	wants(t, "Twin(0)", n.Twin(0), api.OK)
	texts(t, n, "one", "two", "one")
	f, e := n.Take(1)
	if e != api.OK || told(f) != (packet{address(0, 0), address(1, 1), "two", false}) {
		t.Errorf("Take(1) = %v, %d", f, e)
	}
	texts(t, n, "one", "one")
	wants(t, "Turn(1, 0, 1)", n.Turn(1, 0, 1), api.OK)
	texts(t, n, "one", "!nne")
	wants(t, "Turn(1, 0, 1) again", n.Turn(1, 0, 1), api.ErrState)
	texts(t, n, "one", "!nne")
}

func TestNewOfHosts(t *testing.T) {
	for _, hosts := range append([]int{0, 1, 2, 3, 4, 5, 6, 7, 8}, extremes...) {
		n, e := New(hosts)
		if hosts < 1 || hosts > 8 {
			if n != nil || e != api.ErrArg {
				t.Errorf("New(%d) = %v, %d", hosts, n, e)
			}
			continue
		}
		if n == nil || e != api.OK {
			t.Errorf("New(%d) = %v, %d", hosts, n, e)
			continue
		}
		holds(t, n)
	}
}

// TestNewIsUp: in a new Net each path leads from each host to each other one.
func TestNewIsUp(t *testing.T) {
	for hosts := 1; hosts <= 8; hosts++ {
		n := made(t, hosts)
		var want []packet
		for i := range hosts * hosts * 4 {
			from, to := address(i/4/hosts, i&1), address(i/4%hosts, i>>1&1)
			if from.Host == to.Host {
				continue
			}
			wants(t, "Send", n.Send(from, to, []byte{byte(i)}), api.OK)
			want = append(want, packet{from, to, string([]byte{byte(i)}), false})
		}
		holds(t, n, want...)
	}
}

// TestNewHasNoFrames: there is none that could be asked for.
func TestNewHasNoFrames(t *testing.T) {
	n := made(t, 8)
	for _, k := range append([]int{0, 1}, extremes...) {
		if f, e := n.Take(k); e != api.ErrNone || told(f) != (packet{}) {
			t.Errorf("Take(%d) = %v, %d", k, f, e)
		}
		wants(t, "Twin", n.Twin(k), api.ErrNone)
		wants(t, "Last", n.Last(k), api.ErrNone)
		wants(t, "Turn", n.Turn(k, 0, 1), api.ErrNone)
	}
	holds(t, n)
}

// TestZeroValue: a Net that New didn't make has no hosts.
func TestZeroValue(t *testing.T) {
	n := new(Net)
	wants(t, "Send", n.Send(address(0, 0), address(1, 0), []byte("a")), api.ErrArg)
	wants(t, "Cut", n.Cut(0, 1, 0, true), api.ErrArg)
	wants(t, "Cut, up", n.Cut(0, 1, 0, false), api.ErrArg)
	wants(t, "Twin", n.Twin(0), api.ErrNone)
	holds(t, n)
}

// TestNetsAreApart: what is done to one Net shows in no other one.
func TestNetsAreApart(t *testing.T) {
	a, b := with(t, "one"), with(t)
	texts(t, b)
	a.Cut(0, 1, 0, true)
	b.Send(address(0, 0), address(1, 1), []byte("two"))
	a.Send(address(0, 0), address(1, 1), []byte("three"))
	texts(t, a, "one")
	texts(t, b, "two")
	a.Turn(0, 0, 255)
	a.Take(0)
	texts(t, b, "two")
}

func TestNil(t *testing.T) {
	var n *Net
	large := make([]byte, 5000)
	for _, x := range append([]int{0, 1}, extremes...) {
		wants(t, "Send", n.Send(address(x, 0), address(1, x), []byte("a")), api.ErrArg)
		wants(t, "Send of too much", n.Send(address(0, 0), address(1, 0), large), api.ErrArg)
		if f, e := n.Take(x); e != api.ErrArg || told(f) != (packet{}) || f.Bytes != nil {
			t.Errorf("Take(%d) = %v, %d", x, f, e)
		}
		wants(t, "Twin", n.Twin(x), api.ErrArg)
		wants(t, "Last", n.Last(x), api.ErrArg)
		wants(t, "Turn", n.Turn(x, x, 1), api.ErrArg)
		wants(t, "Turn of no bits", n.Turn(x, x, 0), api.ErrArg)
		wants(t, "Cut", n.Cut(x, 1, 0, true), api.ErrArg)
		wants(t, "Cut, up", n.Cut(0, 1, 0, false), api.ErrArg)
	}
	if n.Len() != 0 || n.List() != nil {
		t.Errorf("Len() = %d, List() = %v", n.Len(), n.List())
	}
}

// TestSendOfAddresses: each field of each address, at its edges and beyond them.
func TestSendOfAddresses(t *testing.T) {
	numbers := append([]int{0, 1, 2, 3, 7, 8}, extremes...)
	for _, hosts := range []int{1, 2, 3, 8} {
		for _, host := range numbers {
			for _, path := range numbers {
				other := address(0, 1)
				if host == 0 && hosts > 1 {
					other.Host = 1
				}
				want := api.ErrArg
				if 0 <= host && host < hosts && 0 <= path && path < 2 && host != other.Host {
					want = api.OK
				}
				n := made(t, hosts)
				wants(t, "Send from it", n.Send(address(host, path), other, []byte("a")), want)
				wants(t, "Send to it", n.Send(other, address(host, path), []byte("b")), want)
				if want == api.OK {
					holds(t, n, packet{address(host, path), other, "a", false}, packet{other, address(host, path), "b", false})
				} else {
					holds(t, n)
				}
			}
		}
	}
}

// TestSendToItself: a host doesn't send to itself, over whatever paths.
func TestSendToItself(t *testing.T) {
	n := made(t, 8)
	for i := range 8 * 4 {
		wants(t, "Send to itself", n.Send(address(i/4, i&1), address(i/4, i>>1&1), []byte("a")), api.ErrArg)
	}
	holds(t, n)
}

func TestSendOfBytes(t *testing.T) {
	for _, size := range []int{0, 1, 2, 512, 513, 1024, 4095, 4096, 4097, 5000, 8192, 70000} {
		n := with(t, "first")
		b := bytes.Repeat([]byte{0, 255, 'x'}, size)[:size]
		e := n.Send(address(0, 0), address(1, 1), b)
		if size > 4096 {
			wants(t, "Send of too much", e, api.ErrLarge)
			texts(t, n, "first")
			continue
		}
		wants(t, "Send", e, api.OK)
		texts(t, n, "first", string(b))
	}
	n := made(t, 2)
	wants(t, "Send of nil", n.Send(address(0, 0), address(1, 1), nil), api.OK)
	texts(t, n, "")
}

// TestSendErrorsInOrder: a wrong address is found before too many bytes, and both before a cut path and a full Net.
func TestSendErrorsInOrder(t *testing.T) {
	large := make([]byte, 4097)
	n := full(t)
	n.Cut(0, 1, 1, true)
	before := n.List()
	for path := range 2 {
		wants(t, "Send of nothing wrong", n.Send(address(0, path), address(1, 0), []byte("a")), api.OK)
		wants(t, "Send of too much", n.Send(address(0, path), address(1, 0), large), api.ErrLarge)
		wants(t, "Send to no host", n.Send(address(0, path), address(2, 0), large), api.ErrArg)
		wants(t, "Send to no path", n.Send(address(0, path), address(1, 2), large), api.ErrArg)
		wants(t, "Send to itself", n.Send(address(0, path), address(0, 0), large), api.ErrArg)
	}
	if !slices.EqualFunc(n.List(), before, func(a, b api.Frame) bool { return told(a) == told(b) }) {
		t.Errorf("what was not sent is in transit: %d frames", n.Len())
	}
}

// TestSendOverCutPath: a cut path is one of the sender's, to one host, and in one direction.
func TestSendOverCutPath(t *testing.T) {
	for from := range 3 {
		for to := range 3 {
			for path := range 2 {
				if from == to {
					continue
				}
				n, m := made(t, 3), model{hosts: 3}
				wants(t, "Cut", n.Cut(from, to, path, true), m.cut(from, to, path, true))
				for i := range 3 * 3 * 4 {
					a, b := address(i/12, i&1), address(i/4%3, i>>1&1)
					wants(t, "Send", n.Send(a, b, []byte{byte(i)}), m.send(a, b, []byte{byte(i)}))
				}
				if len(m.packets) != 24-2 {
					t.Fatalf("the model has %d", len(m.packets))
				}
				holds(t, n, m.packets...)
			}
		}
	}
}

// TestSendToFull: a frame that there is no room for is lost, and nothing tells it.
func TestSendToFull(t *testing.T) {
	n := full(t)
	wants(t, "Send", n.Send(address(1, 0), address(0, 0), []byte("lost")), api.OK)
	if n.Len() != 1024 {
		t.Errorf("Len() = %d", n.Len())
	}
	n.Take(1023)
	wants(t, "Send", n.Send(address(1, 0), address(0, 0), []byte("kept")), api.OK)
	wants(t, "Send", n.Send(address(1, 0), address(0, 0), []byte("lost")), api.OK)
	if f, e := n.Take(1023); e != api.OK || told(f) != (packet{address(1, 0), address(0, 0), "kept", false}) {
		t.Errorf("Take(1023) = %v, %d", f, e)
	}
	if n.Len() != 1023 {
		t.Errorf("Len() = %d", n.Len())
	}
}

// missing: numbers of frames that aren't there if there are three.
var missing = append([]int{3, 4, 1023, 1025}, extremes...)

func TestTake(t *testing.T) {
	for k, text := range []string{"one", "two", "three"} {
		n := with(t, "one", "two", "three")
		n.Turn(1, 2, 'o'^'p')
		all := []string{"one", "!twp", "three"}
		want := packet{address(0, 0), address(1, 1), text, false}
		if k == 1 {
			want.text, want.turned = "twp", true
		}
		if f, e := n.Take(k); e != api.OK || told(f) != want {
			t.Errorf("Take(%d) = %v, %d", k, f, e)
		}
		texts(t, n, slices.Delete(all, k, k+1)...)
	}
	n := with(t, "one", "two", "three")
	for _, k := range missing {
		if f, e := n.Take(k); e != api.ErrNone || told(f) != (packet{}) || f.Bytes != nil {
			t.Errorf("Take(%d) = %v, %d", k, f, e)
		}
	}
	texts(t, n, "one", "two", "three")
	for _, want := range []string{"one", "two", "three"} {
		if f, e := n.Take(0); e != api.OK || string(f.Bytes) != want {
			t.Errorf("Take(0) = %v, %d, want %s", f, e, want)
		}
	}
	_, e := n.Take(0)
	wants(t, "Take(0) of none", e, api.ErrNone)
}

func TestTwin(t *testing.T) {
	for k, text := range []string{"one", "!ttree", "three"} {
		n := with(t, "one", "three", "three")
		n.Turn(1, 1, 'h'^'t')
		wants(t, "Twin", n.Twin(k), api.OK)
		texts(t, n, "one", "!ttree", "three", text)
	}
	n := with(t, "one", "two", "three")
	for _, k := range missing {
		wants(t, "Twin", n.Twin(k), api.ErrNone)
	}
	texts(t, n, "one", "two", "three")
}

// TestTwinOfAddresses: a copy comes from where its frame comes from, and goes where that goes.
func TestTwinOfAddresses(t *testing.T) {
	n := made(t, 8)
	n.Send(address(7, 1), address(3, 0), []byte("a"))
	n.Send(address(3, 1), address(7, 1), nil)
	a, b := packet{address(7, 1), address(3, 0), "a", false}, packet{address(3, 1), address(7, 1), "", false}
	wants(t, "Twin(0)", n.Twin(0), api.OK)
	wants(t, "Twin(1)", n.Twin(1), api.OK)
	wants(t, "Twin(2)", n.Twin(2), api.OK) // a copy has copies too
	holds(t, n, a, b, a, b, a)
}

func TestTwinOfFull(t *testing.T) {
	n := full(t)
	for _, k := range []int{0, 1, 512, 1023} {
		wants(t, "Twin of a full Net", n.Twin(k), api.ErrFull)
	}
	for _, k := range append([]int{1024, 1025}, math.MinInt, -1, math.MaxInt) { // a frame that isn't there is found first
		wants(t, "Twin of no frame of a full Net", n.Twin(k), api.ErrNone)
	}
	if n.Len() != 1024 {
		t.Errorf("Len() = %d", n.Len())
	}
	n.Take(5)
	wants(t, "Twin", n.Twin(9), api.OK)
	wants(t, "Twin", n.Twin(9), api.ErrFull)
	if f, e := n.Take(1023); e != api.OK || string(f.Bytes) != "\x00\x0a" {
		t.Errorf("Take(1023) = %v, %d", f, e)
	}
}

// TestTwinIsTurnedForItself: what is turned of a frame shows in none of its copies, and neither does that it was.
func TestTwinIsTurnedForItself(t *testing.T) {
	n := with(t, "one")
	n.Twin(0)
	n.Twin(1)
	wants(t, "Turn(0, 2, 4)", n.Turn(0, 2, 4), api.OK)
	texts(t, n, "!ona", "one", "one")
	wants(t, "Turn(2, 0, 1)", n.Turn(2, 0, 1), api.OK)
	texts(t, n, "!ona", "one", "!nne")
	n.Twin(0)
	wants(t, "Turn of a copy of a frame that is Turned", n.Turn(3, 2, 4), api.ErrState)
	wants(t, "Turn of one that isn't", n.Turn(1, 1, 32), api.OK)
	texts(t, n, "!ona", "!oNe", "!nne", "!ona")
}

func TestLast(t *testing.T) {
	cases := []struct {
		k    int
		want []string
	}{
		{0, []string{"!twp", "three", "one"}},
		{1, []string{"one", "three", "!twp"}},
		{2, []string{"one", "!twp", "three"}},
	}
	for _, c := range cases {
		n := with(t, "one", "two", "three")
		n.Turn(1, 2, 'o'^'p')
		wants(t, "Last", n.Last(c.k), api.OK)
		texts(t, n, c.want...)
	}
	n := with(t, "one", "two", "three")
	for _, k := range missing {
		wants(t, "Last", n.Last(k), api.ErrNone)
	}
	texts(t, n, "one", "two", "three")
	n = with(t, "alone")
	wants(t, "Last of the only one", n.Last(0), api.OK)
	texts(t, n, "alone")
}

// TestLastOfFull: to be moved a frame needs no room.
func TestLastOfFull(t *testing.T) {
	n := full(t)
	wants(t, "Last(3)", n.Last(3), api.OK)
	wants(t, "Last(1024)", n.Last(1024), api.ErrNone)
	list := n.List()
	if len(list) != 1024 || string(list[1023].Bytes) != "\x00\x03" || string(list[3].Bytes) != "\x00\x04" || string(list[2].Bytes) != "\x00\x02" {
		t.Errorf("after Last(3): %d frames, %v", len(list), list[1020:])
	}
}

// TestTurnOfBits: each bit of each byte, and all of them at once.
func TestTurnOfBits(t *testing.T) {
	for at := range 3 {
		for bits := range 256 {
			n := with(t, "other", "\x00\xa5\xff", "more")
			before := []byte("\x00\xa5\xff")
			if bits == 0 {
				wants(t, "Turn of no bits", n.Turn(1, at, 0), api.ErrArg)
				texts(t, n, "other", string(before), "more")
				continue
			}
			wants(t, "Turn", n.Turn(1, at, uint8(bits)), api.OK)
			before[at] ^= byte(bits)
			texts(t, n, "other", "!"+string(before), "more")
		}
	}
}

func TestTurnOfWrong(t *testing.T) {
	n := with(t, "one", "", "three")
	for _, at := range append([]int{3, 4, 5}, extremes...) {
		wants(t, "Turn of no byte", n.Turn(0, at, 1), api.ErrArg)
	}
	for _, at := range append([]int{0, 1}, extremes...) {
		wants(t, "Turn of a frame without bytes", n.Turn(1, at, 1), api.ErrArg)
	}
	for _, k := range missing {
		wants(t, "Turn of no frame", n.Turn(k, 0, 1), api.ErrNone)
	}
	texts(t, n, "one", "", "three")
}

// TestTurnErrorsInOrder: no frame, then no bits and no byte, then one that is Turned; and none of these marks the frame.
func TestTurnErrorsInOrder(t *testing.T) {
	n := with(t, "one")
	wants(t, "Turn of no bits", n.Turn(0, 0, 0), api.ErrArg)
	wants(t, "Turn of no byte", n.Turn(0, 3, 1), api.ErrArg)
	wants(t, "Turn of no frame", n.Turn(1, 3, 0), api.ErrNone)
	wants(t, "Turn of no frame", n.Turn(-1, -1, 0), api.ErrNone)
	texts(t, n, "one")
	wants(t, "Turn", n.Turn(0, 1, 3), api.OK)
	wants(t, "Turn again, of the same bits", n.Turn(0, 1, 3), api.ErrState)
	wants(t, "Turn again, of another byte", n.Turn(0, 2, 128), api.ErrState)
	wants(t, "Turn again, of no bits", n.Turn(0, 1, 0), api.ErrArg)
	wants(t, "Turn again, of no byte", n.Turn(0, 3, 1), api.ErrArg)
	wants(t, "Turn again, of no byte", n.Turn(0, -1, 1), api.ErrArg)
	texts(t, n, "!ome")
}

// TestTurnGoesWithFrame: a frame is Turned wherever it stands, and the one in its old place isn't.
func TestTurnGoesWithFrame(t *testing.T) {
	n := with(t, "one", "two", "three")
	n.Turn(0, 0, 1)
	n.Last(0)
	wants(t, "Turn", n.Turn(2, 0, 1), api.ErrState)
	wants(t, "Turn", n.Turn(0, 0, 1), api.OK)
	texts(t, n, "!uwo", "three", "!nne")
	n.Take(0)
	wants(t, "Turn", n.Turn(0, 0, 1), api.OK)
	texts(t, n, "!uhree", "!nne")
	n.Take(0)
	n.Take(0)
	n.Send(address(0, 0), address(1, 1), []byte("new"))
	texts(t, n, "new")
	wants(t, "Turn", n.Turn(0, 0, 1), api.OK)
}

func TestCutOfPaths(t *testing.T) {
	numbers := append([]int{0, 1, 2, 3, 7, 8}, extremes...)
	for _, hosts := range []int{1, 2, 3, 8} {
		n, m := made(t, hosts), model{hosts: hosts}
		for _, down := range []bool{true, false} {
			for _, x := range numbers {
				for _, y := range numbers {
					wants(t, "Cut of two hosts", n.Cut(x, y, 1, down), m.cut(x, y, 1, down))
					wants(t, "Cut of a host and a path", n.Cut(x, 1, y, down), m.cut(x, 1, y, down))
					wants(t, "Cut of a path and a host", n.Cut(0, x, y, down), m.cut(0, x, y, down))
				}
			}
		}
		holds(t, n)
	}
}

// TestCutAndUp: a path is as it was told last, however often.
func TestCutAndUp(t *testing.T) {
	n := with(t)
	want := []string{}
	for i, down := range []bool{false, true, true, false, false, true, false} {
		wants(t, "Cut", n.Cut(0, 1, 0, down), api.OK)
		text := "text " + string(rune('a'+i))
		wants(t, "Send", n.Send(address(0, 0), address(1, 1), []byte(text)), api.OK)
		if !down {
			want = append(want, text)
		}
		texts(t, n, want...)
	}
}

// TestCutErrorsChangeNothing: after a Cut that returned an error, paths that were up are up and paths that were down are down.
func TestCutErrorsChangeNothing(t *testing.T) {
	n := made(t, 3)
	n.Cut(0, 1, 0, true)
	for _, down := range []bool{true, false} {
		for _, x := range append([]int{3, 8}, extremes...) {
			wants(t, "Cut from no host", n.Cut(x, 1, 0, down), api.ErrArg)
			wants(t, "Cut to no host", n.Cut(0, x, 0, down), api.ErrArg)
			wants(t, "Cut of no path", n.Cut(0, 1, x, down), api.ErrArg)
		}
		wants(t, "Cut of path 2", n.Cut(0, 1, 2, down), api.ErrArg)
		wants(t, "Cut to itself", n.Cut(1, 1, 0, down), api.ErrArg)
		wants(t, "Cut to itself", n.Cut(0, 0, 1, down), api.ErrArg)
	}
	n.Send(address(0, 0), address(1, 0), []byte("down"))
	n.Send(address(0, 1), address(1, 0), []byte("other path"))
	n.Send(address(1, 0), address(0, 0), []byte("back"))
	n.Send(address(0, 0), address(2, 0), []byte("other host"))
	holds(t, n,
		packet{address(0, 1), address(1, 0), "other path", false},
		packet{address(1, 0), address(0, 0), "back", false},
		packet{address(0, 0), address(2, 0), "other host", false})
}

// TestCutLeavesWhatIsInTransit: frames that were sent before the cut are taken, copied, moved and turned as ever.
func TestCutLeavesWhatIsInTransit(t *testing.T) {
	n := with(t, "one", "two", "three")
	n.Cut(0, 1, 0, true)
	n.Cut(0, 1, 1, true)
	texts(t, n, "one", "two", "three")
	wants(t, "Twin(1)", n.Twin(1), api.OK)
	wants(t, "Last(0)", n.Last(0), api.OK)
	wants(t, "Turn(0, 0, 1)", n.Turn(0, 0, 1), api.OK)
	texts(t, n, "!uwo", "three", "two", "one")
	if f, e := n.Take(1); e != api.OK || string(f.Bytes) != "three" {
		t.Errorf("Take(1) = %v, %d", f, e)
	}
	n.Send(address(0, 0), address(1, 1), []byte("lost"))
	texts(t, n, "!uwo", "two", "one")
}

// TestArgumentsAreNotKept: bytes that are sent are as they were, and what is written to them later isn't sent.
func TestArgumentsAreNotKept(t *testing.T) {
	memory := []byte("one and what is behind it")
	b := memory[:3]
	n := with(t)
	n.Send(address(0, 0), address(1, 1), b)
	n.Send(address(0, 0), address(1, 1), b)
	n.Turn(0, 0, 255)
	n.Last(0)
	f, _ := n.Take(0)
	spoil(f.Bytes)
	if string(memory) != "one and what is behind it" {
		t.Errorf("what was handed in is %q", memory)
	}
	n.Send(address(0, 0), address(1, 1), b)
	copy(memory, "xxxxxxxxxxx")
	list := n.List()
	if len(list) != 2 || string(list[1].Bytes) != "one" || string(list[0].Bytes) != "\x90ne" {
		t.Errorf("List() = %v", list)
	}
}

// spoil overwrites bytes, and what is behind their end.
func spoil(b []byte) {
	for i := range b[:cap(b)] {
		b[:cap(b)][i] = '?'
	}
}

// spoilAll overwrites frames and their bytes, and what is behind their end.
func spoilAll(list []api.Frame) {
	list = list[:cap(list)]
	for i := range list {
		spoil(list[i].Bytes)
		list[i] = api.Frame{From: address(9, 9), Turned: true}
	}
}

// TestResultsShareNoMemory: what is done to a result shows neither in the Net nor in another result.
func TestResultsShareNoMemory(t *testing.T) {
	for size := range 70 {
		text := strings.Repeat("abc", size)
		n := with(t, text, text+".", text+"?")
		n.Twin(1)
		all := []string{text, text + ".", text + "?", text + "."}
		a, b := n.List(), n.List()
		spoilAll(a)
		texts(t, n, all...)
		for i, f := range b {
			if string(f.Bytes) != all[i] || f.Turned {
				t.Fatalf("one List shows in another: %v", b)
			}
		}
		spoil(b[1].Bytes)
		if string(b[3].Bytes) != all[3] {
			t.Fatalf("a frame of a List shows in its copy: %v", b)
		}
		c := n.List()
		f, _ := n.Take(1)
		spoil(f.Bytes)
		texts(t, n, text, text+"?", text+".")
		n.Turn(2, 3*size, 1)
		n.Last(0)
		g, _ := n.Take(0)
		n.Twin(0)
		n.Send(address(0, 0), address(1, 1), []byte("new"))
		if string(g.Bytes) != text+"?" || len(c) != 4 || string(c[1].Bytes) != text+"." || string(c[3].Bytes) != text+"." || c[3].Turned {
			t.Fatalf("what was done to the Net shows in what it returned: %v, %v", g, c)
		}
	}
}

// TestLookingChangesNothing: Len and List, called often, show what was there before.
func TestLookingChangesNothing(t *testing.T) {
	n := with(t, "one", "", "three")
	n.Turn(0, 0, 1)
	for range 3 {
		texts(t, n, "!nne", "", "three")
	}
}

// pair is a Net and the model of it, which are asked the same.
type pair struct {
	n *Net
	m model
}

func paired(t *testing.T, hosts int) pair {
	t.Helper()
	return pair{made(t, hosts), model{hosts: hosts}}
}

// step does what the numbers say, and fails where the two differ.
func (p *pair) step(t *testing.T, kind, a, b, c int, text []byte) {
	t.Helper()
	var got, want api.Errno
	switch kind {
	case 0:
		f, e := p.n.Take(a)
		q, x := p.m.take(a)
		if told(f) != q {
			t.Fatalf("Take(%d) = %v, want %v", a, f, q)
		}
		got, want = e, x
	case 1:
		got, want = p.n.Twin(a), p.m.twin(a)
	case 2:
		got, want = p.n.Last(a), p.m.last(a)
	case 3:
		got, want = p.n.Turn(a, b, uint8(c)), p.m.turn(a, b, uint8(c))
	case 4:
		got, want = p.n.Cut(a, b, c>>1, c&1 == 1), p.m.cut(a, b, c>>1, c&1 == 1)
	default:
		from, to := address(a, c&3), address(b, c>>2)
		got, want = p.n.Send(from, to, text), p.m.send(from, to, text)
	}
	if got != want {
		t.Fatalf("step %d of %d, %d, %d and %d bytes = %d, want %d", kind, a, b, c, len(text), got, want)
	}
	if p.n.Len() != len(p.m.packets) {
		t.Fatalf("Len() = %d, want %d", p.n.Len(), len(p.m.packets))
	}
}

// TestAnySteps: many steps, in Nets of few hosts and of many.
func TestAnySteps(t *testing.T) {
	for hosts := 1; hosts <= 8; hosts++ {
		r := rand.New(rand.NewSource(int64(hosts)))
		p := paired(t, hosts)
		for i := range 4000 {
			kind, a, b, c := r.Intn(12), r.Intn(hosts+1), r.Intn(hosts+1), r.Intn(6)
			if kind < 4 {
				a, b = r.Intn(p.n.Len()+2)-1, r.Intn(6)-1
			}
			p.step(t, kind, a, b, c, []byte("any text")[:r.Intn(9)])
			if i%100 == 0 {
				holds(t, p.n, p.m.packets...)
			}
		}
		holds(t, p.n, p.m.packets...)
	}
}

// TestManySteps: a Net that is full most of the time.
func TestManySteps(t *testing.T) {
	r := rand.New(rand.NewSource(9))
	p := pair{n: full(t), m: model{hosts: 2}}
	for _, f := range p.n.List() {
		p.m.packets = append(p.m.packets, told(f))
	}
	for range 3000 {
		kind, a, c := r.Intn(9), r.Intn(1040)-8, r.Intn(256)
		if kind > 3 {
			kind, a, c = 5, 0, 4
		}
		p.step(t, kind, a, 1, c, []byte{byte(c), byte(a)})
	}
	holds(t, p.n, p.m.packets...)
}

// TestTwiceTheSame: the same calls have the same results.
func TestTwiceTheSame(t *testing.T) {
	for range 3 {
		n := with(t, "one", "two")
		n.Cut(1, 0, 0, true)
		n.Cut(1, 0, 1, true)
		n.Send(address(1, 0), address(0, 0), []byte("lost"))
		n.Cut(1, 0, 1, false)
		n.Send(address(1, 1), address(0, 0), []byte("back"))
		n.Twin(2)
		n.Last(0)
		n.Turn(0, 1, 8)
		a, b := packet{address(0, 0), address(1, 1), "one", false}, packet{address(1, 1), address(0, 0), "back", false}
		holds(t, n, packet{address(0, 0), address(1, 1), "t\x7fo", true}, b, b, a)
	}
}

// FuzzAnyArguments holds the calls against the model: each four bytes are a call and its numbers.
func FuzzAnyArguments(f *testing.F) {
	f.Add([]byte(nil), []byte(nil), 2, 0, 0)
	f.Add([]byte{5, 0, 1, 4, 5, 0, 1, 4, 1, 0, 0, 0, 0, 1, 0, 0, 3, 1, 0, 1, 3, 1, 0, 1}, []byte("one"), 2, 1, -1)
	f.Add([]byte{4, 0, 1, 1, 5, 0, 1, 0, 4, 0, 1, 0, 5, 0, 1, 0, 2, 0, 0, 0}, []byte("text"), 8, math.MinInt, math.MaxInt)
	for _, x := range extremes {
		f.Add([]byte{5, 1, 0, 0, 3, 0, 0, 255}, []byte{0}, x, x, x)
	}
	f.Fuzz(func(t *testing.T, steps, text []byte, hosts, x, y int) {
		n, e := New(hosts)
		if (e == api.OK) != (1 <= hosts && hosts <= 8) || (n == nil) != (e != api.OK) {
			t.Fatalf("New(%d) = %v, %d", hosts, n, e)
		}
		p := paired(t, int(uint(hosts)%8)+1)
		for ; len(steps) >= 4; steps = steps[4:] {
			kind := int(steps[0] % 8)
			p.step(t, kind, int(int8(steps[1])), int(int8(steps[2])), int(steps[3]), text)
			if steps[0]%5 == 0 { // and one of those that the bytes can't tell
				p.step(t, kind, x, y, x, text)
			}
		}
		for kind := range 6 {
			p.step(t, kind, x, y, y, text)
		}
		holds(t, p.n, p.m.packets...)
	})
}
