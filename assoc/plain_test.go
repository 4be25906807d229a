package assoc

import (
	"bytes"
	"encoding/binary"
	"hash/crc32"
	"slices"
	"testing"

	"trunkline/api"
)

// The bytes 0, 3, 0, 4: what an Error says of a cookie that came too late.
var staleValue = []byte{0, 3, 0, 4}

// plainAssoc does what the chapter asks, sentence by sentence, with bytes that are laid by hand.
type plainAssoc struct {
	Rules
	state                          int
	mine, peer, myFirst, peerFirst uint32
	letter                         *Letter
	alarm                          *int
	left                           int
}

// laidHello is the chunk of a Hello, with a cookie behind it if it is an InitAck.
func laidHello(kind uint8, tag, window uint32, out, in uint16, tsn uint32, cookie []byte) api.Chunk {
	b := binary.BigEndian.AppendUint32(nil, tag)
	b = binary.BigEndian.AppendUint32(b, window)
	b = binary.BigEndian.AppendUint16(b, out)
	b = binary.BigEndian.AppendUint16(b, in)
	b = binary.BigEndian.AppendUint32(b, tsn)
	if kind == api.InitAck {
		b = binary.BigEndian.AppendUint16(b, 7)
		b = binary.BigEndian.AppendUint16(b, uint16(4+len(cookie)))
		b = append(b, cookie...)
		for len(b)%4 != 0 {
			b = append(b, 0)
		}
	}
	return api.Chunk{Type: kind, Value: b}
}

// toldHello is what an Init, or an InitAck, says, and whether it says anything.
func toldHello(c api.Chunk) (api.Hello, bool) {
	v := c.Value
	if c.Flags != 0 || len(v) < 16 {
		return api.Hello{}, false
	}
	h := api.Hello{Tag: binary.BigEndian.Uint32(v), Window: binary.BigEndian.Uint32(v[4:]), Out: binary.BigEndian.Uint16(v[8:]), In: binary.BigEndian.Uint16(v[10:]), TSN: binary.BigEndian.Uint32(v[12:])}
	if c.Type == api.InitAck {
		if len(v) < 20 {
			return api.Hello{}, false
		}
		n := int(binary.BigEndian.Uint16(v[18:])) - 4
		if n < 0 || n > 256 || len(v) < 20+n {
			return api.Hello{}, false
		}
		h.Cookie = v[20 : 20+n]
	}
	again := laidHello(c.Type, h.Tag, h.Window, h.Out, h.In, h.TSN, h.Cookie)
	return h, bytes.Equal(again.Value, v) && h.Tag != 0 && h.Out != 0 && h.In != 0
}

// laidCookie is the bytes of a cookie, whether or not there may be one.
func laidCookie(key uint64, c api.Crumb) []byte {
	b := binary.BigEndian.AppendUint64(nil, uint64(c.Time))
	for _, n := range []uint32{c.Mine, c.Peer, c.MyTSN, c.PeerTSN, c.Window, c.TieMine, c.TiePeer} {
		b = binary.BigEndian.AppendUint32(b, n)
	}
	k := binary.BigEndian.AppendUint64(nil, key)
	return binary.BigEndian.AppendUint32(b, crc32.Checksum(slices.Concat(k, b, k), crc32.MakeTable(crc32.Castagnoli)))
}

// toldCookie is what a cookie says, and whether it is one.
func toldCookie(key uint64, b []byte) (api.Crumb, bool) {
	if len(b) != 40 {
		return api.Crumb{}, false
	}
	var n [7]uint32
	for i := range n {
		n[i] = binary.BigEndian.Uint32(b[8+4*i:])
	}
	c := api.Crumb{Time: int(binary.BigEndian.Uint64(b)), Mine: n[0], Peer: n[1], MyTSN: n[2], PeerTSN: n[3], Window: n[4], TieMine: n[5], TiePeer: n[6]}
	return c, bytes.Equal(laidCookie(key, c), b) && c.Time >= 0 && c.Time <= 1<<40 && c.Mine != 0 && c.Peer != 0
}

func (p *plainAssoc) in(states ...int) bool {
	return slices.Contains(states, p.state)
}

func letters(tag uint32, c api.Chunk) Out {
	return Out{Packets: []Letter{{Tag: tag, Chunk: c}}}
}

func (p *plainAssoc) sendAndAwait(tag uint32, c api.Chunk, now int) Out {
	at := now + p.Rto
	p.letter, p.alarm, p.left = &Letter{Tag: tag, Chunk: c}, &at, p.Tries
	return letters(tag, c)
}

func (p *plainAssoc) end() {
	r := p.Rules
	r.Key++
	*p = plainAssoc{Rules: r}
}

func (p *plainAssoc) init(now int) Out {
	return p.sendAndAwait(0, laidHello(api.Init, p.mine, p.Window, 8, 8, p.myFirst, nil), now)
}

func (p *plainAssoc) open(tag, tsn uint32, now int) (Out, api.Errno) {
	if p.state != Closed {
		return Out{}, api.ErrState
	}
	if tag == 0 {
		return Out{}, api.ErrArg
	}
	p.mine, p.myFirst, p.state = tag, tsn, CookieWait
	return p.init(now), api.OK
}

func (p *plainAssoc) tick(now int) Out {
	if p.alarm == nil || *p.alarm > now {
		return Out{}
	}
	if p.left == 0 {
		p.end()
		return Out{Events: []int{Lost}}
	}
	at := now + p.Rto
	p.left, p.alarm = p.left-1, &at
	return letters(p.letter.Tag, p.letter.Chunk)
}

func (p *plainAssoc) close(now int, drained bool) (Out, api.Errno) {
	if p.state != Established {
		return Out{}, api.ErrState
	}
	if !drained {
		p.state = Pending
		return Out{}, api.OK
	}
	p.state = ShutSent
	return p.sendAndAwait(p.peer, api.Chunk{Type: api.Shutdown}, now), api.OK
}

func (p *plainAssoc) drained(now int) Out {
	if p.in(Pending) {
		p.state = ShutSent
		return p.sendAndAwait(p.peer, api.Chunk{Type: api.Shutdown}, now)
	}
	if p.in(ShutReceived) {
		p.state = ShutAckSent
		return p.sendAndAwait(p.peer, api.Chunk{Type: api.ShutdownAck}, now)
	}
	return Out{}
}

func (p *plainAssoc) abort() Out {
	if p.in(Closed) {
		return Out{}
	}
	peer := p.peer
	p.end()
	if peer == 0 {
		return Out{}
	}
	return letters(peer, api.Chunk{Type: api.Abort})
}

func (p *plainAssoc) recv(tag uint32, c api.Chunk, now int, draw uint32) Out {
	mine := tag == p.mine
	mirrored := c.Flags == 1 && tag == p.peer
	if c.Type == api.Init && tag == 0 {
		return p.recvInit(c, now, draw)
	}
	if c.Type == api.CookieEcho {
		return p.recvCookie(tag, c.Value, now)
	}
	if h, ok := toldHello(c); c.Type == api.InitAck && p.in(CookieWait) && mine && ok {
		p.peer, p.peerFirst, p.state = h.Tag, h.TSN, CookieEchoed
		return p.sendAndAwait(p.peer, api.Chunk{Type: api.CookieEcho, Value: bytes.Clone(h.Cookie)}, now)
	}
	if c.Type == api.CookieAck && p.in(CookieEchoed) && mine {
		p.state, p.letter, p.alarm = Established, nil, nil
		return Out{Events: []int{Up}}
	}
	if c.Type == api.Error && p.in(CookieEchoed) && mine && bytes.Equal(c.Value, staleValue) {
		p.state, p.peer, p.peerFirst = CookieWait, 0, 0
		return p.init(now)
	}
	if c.Type == api.Abort && !p.in(Closed) && (mine || mirrored && tag != 0) {
		p.end()
		return Out{Events: []int{Lost}}
	}
	if c.Type == api.Shutdown && mine && p.in(Established, Pending) {
		p.state, p.letter, p.alarm = ShutReceived, nil, nil
	} else if c.Type == api.Shutdown && mine && p.in(ShutSent) {
		p.state = ShutAckSent
		return p.sendAndAwait(p.peer, api.Chunk{Type: api.ShutdownAck}, now)
	}
	if c.Type == api.ShutdownAck && mine && p.in(ShutSent, ShutAckSent) {
		peer := p.peer
		p.end()
		return Out{Packets: letters(peer, api.Chunk{Type: api.ShutdownComplete}).Packets, Events: []int{Over}}
	} else if c.Type == api.ShutdownAck && p.in(Closed) {
		return letters(tag, api.Chunk{Type: api.ShutdownComplete, Flags: 1})
	}
	if c.Type == api.ShutdownComplete && p.in(ShutAckSent) && (mine || mirrored) {
		p.end()
		return Out{Events: []int{Over}}
	}
	return Out{}
}

func (p *plainAssoc) recvInit(c api.Chunk, now int, draw uint32) Out {
	h, ok := toldHello(c)
	if !ok {
		return Out{}
	}
	if p.in(ShutAckSent) {
		return letters(p.letter.Tag, p.letter.Chunk)
	}
	if now < 0 || now > 1<<40 {
		return Out{}
	}
	tag, tsn := draw, ^draw
	if draw == 0 {
		tag = 1
	}
	if p.in(CookieWait, CookieEchoed) {
		tag, tsn = p.mine, p.myFirst
	}
	var tieMine, tiePeer uint32
	if !p.in(Closed, CookieWait) {
		tieMine, tiePeer = p.mine, p.peer
	}
	crumb := api.Crumb{Time: now, Mine: tag, Peer: h.Tag, MyTSN: tsn, PeerTSN: h.TSN, Window: h.Window, TieMine: tieMine, TiePeer: tiePeer}
	return letters(h.Tag, laidHello(api.InitAck, tag, p.Window, 8, 8, tsn, laidCookie(p.Key, crumb)))
}

func (p *plainAssoc) accepted(c api.Crumb, event int) Out {
	p.mine, p.peer, p.myFirst, p.peerFirst = c.Mine, c.Peer, c.MyTSN, c.PeerTSN
	p.state, p.letter, p.alarm = Established, nil, nil
	return Out{Packets: letters(p.peer, api.Chunk{Type: api.CookieAck}).Packets, Events: []int{event}}
}

func (p *plainAssoc) recvCookie(tag uint32, value []byte, now int) Out {
	c, ok := toldCookie(p.Key, value)
	if !ok || tag != c.Mine {
		return Out{}
	}
	if now < c.Time || now-p.Life > c.Time {
		return letters(c.Peer, api.Chunk{Type: api.Error, Value: staleValue})
	}
	if p.in(Closed) {
		return p.accepted(c, Up)
	}
	if p.in(ShutAckSent) {
		return letters(p.letter.Tag, p.letter.Chunk)
	}
	m, q := c.Mine == p.mine, c.Peer == p.peer
	t := c.TieMine == p.mine && c.TiePeer == p.peer && c.TieMine != 0 && c.TiePeer != 0
	if !m && !q && t {
		return p.accepted(c, Restart)
	}
	if m && !q {
		if p.in(CookieWait, CookieEchoed) {
			return p.accepted(c, Up)
		}
		return p.accepted(c, Restart)
	}
	if m && q {
		if p.in(CookieWait, CookieEchoed) {
			return p.accepted(c, Up)
		}
		return letters(p.peer, api.Chunk{Type: api.CookieAck})
	}
	return Out{}
}

func sameLetter(a, b Letter) bool {
	return a.Tag == b.Tag && a.Chunk.Type == b.Chunk.Type && a.Chunk.Flags == b.Chunk.Flags && bytes.Equal(a.Chunk.Value, b.Chunk.Value)
}

func sameOut(a, b Out) bool {
	return slices.EqualFunc(a.Packets, b.Packets, sameLetter) && slices.Equal(a.Events, b.Events)
}

// both is an association and the plain one that goes with it: each call is held against the plain one's.
type both struct {
	a Assoc
	p plainAssoc
}

func newBoth(r Rules) *both {
	a, e := New(r)
	if e != api.OK {
		panic(e)
	}
	return &both{*a, plainAssoc{Rules: r}}
}

// twin is the same once more, so that what is done to it doesn't count. (No letter is ever written to.)
func (x *both) twin() *both {
	y := *x
	return &y
}

func (x *both) agree(t testing.TB, what string, got, want Out) Out {
	t.Helper()
	if !sameOut(got, want) {
		t.Fatalf("%s in the state %d: %v, want %v", what, x.p.state, got, want)
	}
	x.looks(t, what)
	return got
}

// looks holds all that can be seen without a change against the plain one's.
func (x *both) looks(t testing.TB, what string) {
	t.Helper()
	m, q := x.a.Tags()
	f, g := x.a.Firsts()
	if s := x.a.State(); s != x.p.state || m != x.p.mine || q != x.p.peer || f != x.p.myFirst || g != x.p.peerFirst {
		t.Fatalf("behind %s: state %d, tags %d, %d, firsts %d, %d, want %d, %d, %d, %d, %d", what, s, m, q, f, g, x.p.state, x.p.mine, x.p.peer, x.p.myFirst, x.p.peerFirst)
	}
}

// stands holds all that can be found out by going on against the plain one's: the alarm, the letter, the tries that are left, and the Key.
func (x *both) stands(t testing.TB) {
	t.Helper()
	y := x.twin()
	for y.p.alarm != nil {
		at := *y.p.alarm
		y.tick(t, at-1)
		y.tick(t, at)
	}
	y.tick(t, 1<<60)
	y.abort(t)
	y.recv(t, 0, laidHello(api.Init, 1, 2, 3, 4, 5, nil), 6, 7)
}

func (x *both) open(t testing.TB, tag, tsn uint32, now int) (Out, api.Errno) {
	t.Helper()
	want, wrong := x.p.open(tag, tsn, now)
	got, e := x.a.Open(tag, tsn, now)
	if e != wrong {
		t.Fatalf("Open(%d, %d, %d) in the state %d: error %d, want %d", tag, tsn, now, x.p.state, e, wrong)
	}
	return x.agree(t, "Open", got, want), e
}

func (x *both) recv(t testing.TB, tag uint32, c api.Chunk, now int, draw uint32) Out {
	t.Helper()
	before := x.p.state
	want := x.p.recv(tag, c, now, draw)
	got := x.a.Recv(tag, c, now, draw)
	if !sameOut(got, want) {
		t.Fatalf("Recv(%d, %v, %d, %d) in the state %d: %v, want %v", tag, c, now, draw, before, got, want)
	}
	x.looks(t, "Recv")
	return got
}

func (x *both) tick(t testing.TB, now int) Out {
	t.Helper()
	want := x.p.tick(now)
	return x.agree(t, "Tick", x.a.Tick(now), want)
}

func (x *both) close(t testing.TB, now int, drained bool) (Out, api.Errno) {
	t.Helper()
	want, wrong := x.p.close(now, drained)
	got, e := x.a.Close(now, drained)
	if e != wrong {
		t.Fatalf("Close(%d, %v) in the state %d: error %d, want %d", now, drained, x.p.state, e, wrong)
	}
	return x.agree(t, "Close", got, want), e
}

func (x *both) drained(t testing.TB, now int) Out {
	t.Helper()
	want := x.p.drained(now)
	return x.agree(t, "Drained", x.a.Drained(now), want)
}

func (x *both) abort(t testing.TB) Out {
	t.Helper()
	want := x.p.abort()
	return x.agree(t, "Abort", x.a.Abort(), want)
}
