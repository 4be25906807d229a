package link

import (
	"bytes"
	"encoding/binary"
	"fmt"
	"hash/crc32"
	"math"
	"slices"
	"strings"
	"testing"

	"trunkline/api"
	"trunkline/assoc"
	"trunkline/chunk"
	"trunkline/cookie"
)

// TestExample is the chapter's.
func TestExample(t *testing.T) {
	a, _ := New(0, 1, 1<<32)
	b, _ := New(1, 0, 2<<32)
	if e := a.Open(0, 1000000); e != api.OK {
		t.Fatalf("Open: %d", e)
	}
	exchange := func() {
		for busy := true; busy; {
			busy = false
			for i, from := range []*Link{a, b} {
				for _, p := range from.Take() {
					busy = true
					if e := []*Link{b, a}[i].Recv(p.Path, p.Bytes, 0, 2000000); e != api.OK {
						t.Fatalf("Recv: %d", e)
					}
				}
			}
		}
	}
	exchange()
	if e := a.Send(message(3, "hello"), false, 0); e != api.OK {
		t.Fatalf("Send: %d", e)
	}
	exchange()
	news := b.Told()
	if len(news) != 2 || news[0].Kind != 1 || news[0].Message.Bytes != nil || news[0].Message.Stream != 0 ||
		news[1].Kind != 5 || news[1].Message.Stream != 3 || string(news[1].Message.Bytes) != "hello" {
		t.Errorf("b is told %v", news)
	}
	if news := a.Told(); len(news) != 1 || news[0].Kind != 1 {
		t.Errorf("a is told %v", news)
	}
	if a.Told() != nil || b.Told() != nil || a.Take() != nil || b.Take() != nil {
		t.Errorf("something comes twice")
	}
}

func TestNewOfBounds(t *testing.T) {
	numbers := []int{math.MinInt, -8, -1, 0, 1, 2, 3, 4, 5, 6, 7, 8, 9, 255, 65535, 65536, math.MaxInt}
	for _, me := range numbers {
		for _, peer := range numbers {
			for _, key := range []uint64{0, 1, math.MaxUint64} {
				want := api.OK
				if me < 0 || me > 7 || peer < 0 || peer > 7 || me == peer {
					want = api.ErrArg
				}
				if l, e := New(me, peer, key); e != want || (l != nil) != (want == api.OK) {
					t.Errorf("New(%d, %d, %d): %v, %d, want %d", me, peer, key, l, e, want)
				}
			}
		}
	}
}

func TestNewIsClosed(t *testing.T) {
	l, _ := New(0, 7, 5)
	mine, peer := l.Tags()
	if l.State() != assoc.Closed || mine != 0 || peer != 0 || l.Take() != nil || l.Told() != nil {
		t.Errorf("a new link: state %d, tags %d, %d", l.State(), mine, peer)
	}
	for now := range 300 {
		l.Tick(now)
	}
	if l.Take() != nil || l.Told() != nil {
		t.Errorf("a Closed link does something")
	}
}

func TestHostsAtBothEnds(t *testing.T) {
	for _, hosts := range [][2]int{{0, 7}, {7, 0}, {0, 1}, {6, 7}} {
		x := newPair(t)
		for s := range 2 {
			x.side[s], _ = New(hosts[s], hosts[1-s], uint64(s+1)<<32)
		}
		x.open(0)
		x.settle()
		x.joined(fmt.Sprint(hosts))
		x.say(0, 0, "there")
		x.say(1, 7, "back")
		x.settle()
		x.whole(fmt.Sprint(hosts))
	}
}

func TestOpen(t *testing.T) {
	for _, draw := range []uint32{0, 1, 2, 77, 1 << 31, math.MaxUint32} {
		l, _ := New(0, 1, 5)
		if e := l.Open(3, draw); e != api.OK {
			t.Fatalf("Open(%d): %d", draw, e)
		}
		tag := draw
		if draw == 0 {
			tag = 1
		}
		if mine, peer := l.Tags(); mine != tag || peer != 0 || l.State() != assoc.CookieWait {
			t.Errorf("after Open(%d): tags %d, %d, state %d", draw, mine, peer, l.State())
		}
		parcels := l.Take()
		if len(parcels) != 1 {
			t.Fatalf("Open(%d) sends %v", draw, parcels)
		}
		p := read(t, parcels[0].Bytes)
		h, e := chunk.ToHello(p.Chunks[0])
		if p.Tag != 0 || len(p.Chunks) != 1 || p.Chunks[0].Type != api.Init || e != api.OK ||
			h.Tag != tag || h.TSN != ^draw || h.Window != 65536 || h.Out != 8 || h.In != 8 {
			t.Errorf("Open(%d) sends %v: %v", draw, p, h)
		}
		if e := l.Open(4, 9); e != api.ErrState || l.Take() != nil {
			t.Errorf("a second Open: %d", e)
		}
		if mine, _ := l.Tags(); mine != tag {
			t.Errorf("a second Open changes the tag to %d", mine)
		}
	}
}

func TestFreshNumbersOfRecv(t *testing.T) {
	for _, draw := range []uint32{0, 1, 99, math.MaxUint32} {
		a, _ := New(0, 1, 5)
		b, _ := New(1, 0, 6<<32)
		a.Open(0, 1<<20)
		b.Recv(0, a.Take()[0].Bytes, 0, draw)
		if b.State() != assoc.Closed {
			t.Errorf("after an Init: state %d", b.State())
		}
		h, e := chunk.ToHello(read(t, b.Take()[0].Bytes).Chunks[0])
		if e != api.OK || h.Tag != max(draw, 1) || h.TSN != ^draw {
			t.Errorf("with the draw %d: %v", draw, h)
		}
		c, e := cookie.Open(6<<32, h.Cookie)
		if e != api.OK || c.Mine != h.Tag || c.Peer != 1<<20 {
			t.Errorf("the cookie: %v, %d", c, e)
		}
	}
}

func TestKeyAfterTheEnd(t *testing.T) {
	x := joinedPair(t)
	x.abort(1)
	x.renew(0)
	x.air = nil
	x.open(0)
	x.recv(x.take(0))
	h, _ := chunk.ToHello(read(t, x.take(0).Bytes).Chunks[0])
	if _, e := cookie.Open(2<<32, h.Cookie); e != api.ErrSum {
		t.Errorf("under the key of the life before: %d", e)
	}
	if _, e := cookie.Open(2<<32+1, h.Cookie); e != api.OK {
		t.Errorf("under the next key: %d", e)
	}
}

func TestTriesOfOpen(t *testing.T) {
	l, _ := New(0, 1, 5)
	l.Open(1000, 77)
	var at []int
	paths := map[int]int{}
	for now := 1000; now <= 1200; now++ {
		l.Tick(now)
		for _, p := range l.Take() {
			at = append(at, now-1000)
			paths[p.Path]++
		}
		for _, n := range l.Told() {
			if now != 1108 || n.Kind != assoc.Lost {
				t.Errorf("at %d: %v", now, n)
			}
		}
		if want := now < 1108; (l.State() == assoc.CookieWait) != want {
			t.Fatalf("at %d: state %d", now, l.State())
		}
	}
	if !slices.Equal(at, []int{0, 12, 24, 36, 48, 60, 72, 84, 96}) {
		t.Errorf("sent at %v", at)
	}
	if len(paths) != api.MaxPaths {
		t.Errorf("tries on %v", paths)
	}
}

func TestLifeOfACookie(t *testing.T) {
	for _, later := range []int{0, 200, 201} {
		x := newPair(t)
		x.open(0)
		x.recv(x.take(0))
		x.recv(x.take(0))
		x.now += later
		x.recv(x.take(0))
		if got := x.side[1].State() == assoc.Established; got != (later <= 200) {
			t.Errorf("a cookie %d ticks old: state %d", later, x.side[1].State())
		}
		if stale := x.air[0].has(api.Error); stale != (later > 200) {
			t.Errorf("a cookie %d ticks old: %v", later, x.air[0])
		}
	}
}

// scene is a state, and a way to lead side 0 of a pair there.
type scene struct {
	state int
	lead  func(x *pair)
}

func establish(x *pair) {
	x.open(0)
	x.settle()
	x.joined("a scene")
}

// outstanding establishes, and leaves a message of side 0 without an answer.
func outstanding(x *pair) {
	establish(x)
	x.say(0, 1, "unanswered")
	x.air = nil
}

var scenes = []scene{
	{assoc.Closed, func(x *pair) {}},
	{assoc.CookieWait, func(x *pair) { x.open(0) }},
	{assoc.CookieEchoed, func(x *pair) {
		x.open(0)
		x.recv(x.take(0))
		x.recv(x.take(0))
	}},
	{assoc.Established, outstanding},
	{assoc.Pending, func(x *pair) {
		outstanding(x)
		x.close(0)
	}},
	{assoc.ShutSent, func(x *pair) {
		establish(x)
		x.close(0)
	}},
	{assoc.ShutReceived, func(x *pair) {
		outstanding(x)
		x.close(1)
		x.recv(x.find(api.Shutdown))
	}},
	{assoc.ShutAckSent, func(x *pair) {
		establish(x)
		x.close(1)
		x.recv(x.find(api.Shutdown))
	}},
}

// at returns a pair whose side 0 is in that state.
func at(t testing.TB, state int) *pair {
	t.Helper()
	x := newPair(t)
	scenes[state].lead(x)
	if got := x.side[0].State(); got != state {
		t.Fatalf("state %d, want %d", got, state)
	}
	return x
}

func TestOpenOfStates(t *testing.T) {
	for _, s := range scenes {
		x := at(t, s.state)
		before := x.tags(0)
		x.air = nil
		e := x.open(0)
		switch {
		case s.state == assoc.Closed:
			if e != api.OK || len(x.air) != 1 {
				t.Errorf("Open when Closed: %d, %v", e, x.air)
			}
		case e != api.ErrState || len(x.air) != 0 || x.side[0].State() != s.state || x.tags(0) != before:
			t.Errorf("Open in state %d: %d, state %d", s.state, e, x.side[0].State())
		}
	}
}

func TestCloseOfStates(t *testing.T) {
	for _, s := range scenes {
		x := at(t, s.state)
		x.air = nil
		e := x.close(0)
		switch {
		case s.state == assoc.Established: // with a message that isn't acknowledged
			if e != api.OK || x.side[0].State() != assoc.Pending || len(x.air) != 0 {
				t.Errorf("Close when Established: %d, state %d, %v", e, x.side[0].State(), x.air)
			}
		case e != api.ErrState || x.side[0].State() != s.state || len(x.air) != 0:
			t.Errorf("Close in state %d: %d, state %d", s.state, e, x.side[0].State())
		}
	}
	x := joinedPair(t)
	if e := x.close(1); e != api.OK || x.side[1].State() != assoc.ShutSent || !x.air[0].has(api.Shutdown) {
		t.Errorf("Close with nothing on the way: %d, state %d", e, x.side[1].State())
	}
}

func TestSendOfStates(t *testing.T) {
	for _, s := range scenes {
		for _, m := range []api.Message{message(0, "hi"), message(99, ""), message(0, strings.Repeat("x", 5000))} {
			x := at(t, s.state)
			x.air = nil
			want := api.ErrState
			if s.state == assoc.Established {
				want = map[int]api.Errno{2: api.OK, 0: api.ErrArg, 5000: api.ErrLarge}[len(m.Bytes)]
			}
			if e := x.send(0, m, false); e != want || (want == api.OK) != (len(x.air) > 0) {
				t.Errorf("Send of %d bytes in state %d: %d, want %d", len(m.Bytes), s.state, e, want)
			}
		}
	}
}

func TestSendOfWrong(t *testing.T) {
	x := joinedPair(t)
	for _, m := range []struct {
		name string
		m    api.Message
		want api.Errno
	}{
		{"no bytes", api.Message{Stream: 1}, api.ErrArg},
		{"empty bytes", api.Message{Stream: 1, Bytes: []byte{}}, api.ErrArg},
		{"the stream after the last", message(8, "a"), api.ErrArg},
		{"the last stream of all", message(65535, "a"), api.ErrArg},
		{"one byte too many", message(1, strings.Repeat("x", 4097)), api.ErrLarge},
		{"very many bytes", message(1, strings.Repeat("x", 1<<20)), api.ErrLarge},
		{"both", message(8, strings.Repeat("x", 4097)), api.ErrArg},
	} {
		for _, unordered := range []bool{false, true} {
			if e := x.send(0, m.m, unordered); e != m.want || len(x.air) != 0 {
				t.Errorf("Send with %s: %d, want %d", m.name, e, m.want)
			}
		}
	}
	x.say(0, 1, "a") // which would wait for the refused ones if they had numbers
	x.say(0, 7, strings.Repeat("x", 4096))
	x.settle()
	x.whole("after refused messages")
}

func TestSendOfRoom(t *testing.T) {
	for _, size := range []int{1, 256, 257, 512, 4095, 4096} {
		pieces := (size + 255) / 256
		for _, more := range []int{0, 1} {
			x := joinedPair(t)
			for i := range 256 - pieces + more {
				x.say(0, 2, text(i, 10))
			}
			want := api.OK
			if more > 0 {
				want = api.ErrFull
			}
			for _, unordered := range []bool{true, false} {
				if e := x.send(0, message(2, text(1000, size)), unordered); e != want {
					t.Errorf("Send of %d pieces with room for %d: %d, want %d", pieces, pieces-more, e, want)
				}
				want = api.ErrFull
			}
			if e := x.send(0, message(9, "a"), false); e != api.ErrArg {
				t.Errorf("Send of a wrong message without room: %d", e)
			}
			x.within("after a full queue", 400, x.run)
			x.say(0, 2, "and more") // which would wait if a refused one had a number
			x.settle()
			x.whole("after a refused message")
		}
	}
}

// TestRoomIsForWhatIsAcknowledged: what has arrived takes room until all ahead of it has.
func TestRoomIsForWhatIsAcknowledged(t *testing.T) {
	x := joinedPair(t)
	first, _ := x.firsts(0)
	x.loses = func(f flying) bool {
		return slices.ContainsFunc(read(t, f.Bytes).Chunks, func(c api.Chunk) bool {
			p, e := chunk.ToPiece(c)
			return e == api.OK && p.TSN == first
		})
	}
	for i := range 256 {
		x.say(0, uint16(i%8), text(i, 5))
		x.settle()
	}
	if got := x.got[1][x.tags(1)]; len(got) != 7*32 { // those of the other streams
		t.Errorf("told %d", len(got))
	}
	if e := x.send(0, message(0, "a"), false); e != api.ErrFull {
		t.Errorf("Send with a gap at the beginning: %d", e)
	}
	x.loses = nil
	x.within("after the gap", 20, x.run)
	x.say(0, 0, "a")
	x.settle()
	x.whole("after the gap")
}

func TestNil(t *testing.T) {
	var l *Link
	for _, path := range []int{-1, 0, 1, 2} {
		if e := l.Recv(path, nil, 1, 2); e != api.ErrArg {
			t.Errorf("Recv of nil: %d", e)
		}
	}
	l.Tick(0)
	l.Abort()
	mine, peer := l.Tags()
	if l.Open(0, 1) != api.ErrArg || l.Close(0) != api.ErrArg || l.Send(message(0, "a"), false, 0) != api.ErrArg ||
		l.Take() != nil || l.Told() != nil || l.State() != 0 || mine != 0 || peer != 0 {
		t.Errorf("nil: %d, %d, %d", l.State(), mine, peer)
	}
}

// TestZeroLink: one that New did not make does nothing, but it bears every call.
func TestZeroLink(t *testing.T) {
	x := joinedPair(t)
	x.say(0, 0, "a")
	x.open(1)
	var l Link
	l.Open(0, 5)
	for _, f := range x.air {
		l.Recv(f.Path, f.Bytes, 0, 6)
	}
	l.Recv(0, made(t, 0, api.Chunk{Type: api.Init, Value: make([]byte, 16)}), 0, 6)
	l.Send(message(0, "a"), false, 0)
	l.Tick(50)
	l.Close(50)
	l.Abort()
	if l.State() != 0 || l.Take() != nil || l.Told() != nil {
		t.Errorf("a zero link does something")
	}
}

func TestRecvOfWrong(t *testing.T) {
	data := dataOf(t, api.Piece{Begin: true, End: true, Bytes: []byte("a")})
	good := made(t, 5, data)
	turned := slices.Clone(good)
	turned[20] ^= 4
	for _, b := range []struct {
		name string
		b    []byte
		want api.Errno
	}{
		{"nothing", nil, api.ErrShort},
		{"too few bytes", good[:11], api.ErrShort},
		{"a byte less", good[:len(good)-1], api.ErrSum},
		{"a turned bit", turned, api.ErrSum},
		{"too many bytes", make([]byte, api.MaxBytes+1), api.ErrLarge},
		{"as many bytes as may be", make([]byte, api.MaxBytes), api.ErrSum},
		{"another tag", good, api.ErrTag},
		{"no chunk", sealed(made(t, 5, data)[:12]), api.ErrForm},
		{"a chunk that ends early", sealed(append(made(t, 5, data)[:12], 0, 0, 0, 9)), api.ErrShort},
	} {
		for _, path := range []int{math.MinInt, -1, 0, 1, 2, 3, math.MaxInt} {
			want := b.want
			if path != 0 && path != 1 {
				want = api.ErrArg
			}
			for _, s := range scenes {
				unchanged(t, s.state, fmt.Sprintf("%s on path %d in state %d", b.name, path, s.state), want, func(x *pair) api.Errno {
					return x.side[0].Recv(path, slices.Clone(b.b), x.now, 12345678)
				})
			}
		}
	}
}

// sealed puts the right checksum into a packet.
func sealed(b []byte) []byte {
	b = slices.Clone(b)
	clear(b[8:12])
	binary.LittleEndian.PutUint32(b[8:12], crc32.Checksum(b, crc32.MakeTable(crc32.Castagnoli)))
	return b
}

// unchanged says that a call answers that error, and that everything which comes after it is as without it.
func unchanged(t *testing.T, state int, what string, want api.Errno, call func(x *pair) api.Errno) {
	t.Helper()
	x, y := at(t, state), at(t, state)
	x.trace, y.trace = new(strings.Builder), new(strings.Builder)
	if e := call(x); e != want {
		t.Errorf("%s: %d, want %d", what, e, want)
	}
	goOn(x)
	goOn(y)
	if x.trace.String() != y.trace.String() {
		t.Errorf("%s: something is changed by it", what)
	}
}

// goOn uses a pair for a while, in every way.
func goOn(x *pair) {
	x.collect(0)
	for i := range 3 {
		x.send(0, message(1, text(i, 300)), i == 1)
		x.send(1, message(2, text(i, 30)), false)
		x.round()
		x.tick()
	}
	x.run(40)
	x.close(0)
	x.run(40)
	x.open(0)
	x.run(5)
}

func TestOtherTags(t *testing.T) {
	for _, s := range scenes {
		for name, chunks := range ofLifeChunks(t, at(t, s.state)) {
			for _, tag := range otherTags(at(t, s.state)) {
				what := fmt.Sprintf("%s under the tag %x in state %d", name, tag, s.state)
				unchanged(t, s.state, what, api.ErrTag, func(x *pair) api.Errno {
					return x.side[0].Recv(0, made(t, tag, chunks...), x.now, 12345678)
				})
			}
		}
	}
}

// otherTags are those that are not side 0's own.
func otherTags(x *pair) []uint32 {
	own := x.tags(0)
	list := []uint32{own.mine ^ 1, own.mine + 1, ^own.mine, own.peer, 1, math.MaxUint32}
	return slices.DeleteFunc(list, func(tag uint32) bool { return tag == 0 || tag == own.mine })
}

// ofLifeChunks are chunks that would have an effect in side 0's life, and such chunks beside others.
func ofLifeChunks(t *testing.T, x *pair) map[string][]api.Chunk {
	mine, peer := x.firsts(0)
	data := dataOf(t, api.Piece{TSN: peer, Begin: true, End: true, Bytes: []byte("false")})
	sack := sackOf(t, api.Heard{Cum: mine, Window: 65536})
	ask := api.Chunk{Type: api.Beat, Value: []byte("are you there")}
	answer := api.Chunk{Type: api.BeatAck, Value: beat{path: 0, sent: x.now, from: x.tags(0).mine}.value()}
	return map[string][]api.Chunk{
		"a Data":                           {data},
		"a Data of nothing":                {{Type: api.Data}},
		"a Sack":                           {sack},
		"a Sack of nothing":                {{Type: api.Sack}},
		"a Beat":                           {ask},
		"a Beat of nothing":                {{Type: api.Beat}},
		"a BeatAck":                        {answer},
		"a BeatAck of nothing":             {{Type: api.BeatAck}},
		"all of them":                      {data, sack, ask, answer},
		"a Data behind an Abort":           {{Type: api.Abort, Flags: 1}, data},
		"a Sack behind a Shutdown":         {{Type: api.Shutdown}, {Type: api.ShutdownAck}, sack},
		"a Beat behind a CookieAck":        {{Type: api.CookieAck}, ask},
		"a BeatAck behind what is unknown": {{Type: 63}, {Type: 255}, answer},
	}
}

// TestOwnTag: under the right tag they are taken in every state, if only to be ignored.
func TestOwnTag(t *testing.T) {
	for _, s := range scenes {
		for name, chunks := range ofLifeChunks(t, at(t, s.state)) {
			x := at(t, s.state)
			if x.tags(0).mine == 0 {
				continue
			}
			if e := x.side[0].Recv(1, made(t, x.tags(0).mine, chunks...), x.now, 12345678); e != api.OK {
				t.Errorf("%s in state %d: %d", name, s.state, e)
			}
		}
	}
}

// TestBeforeTheLife: what comes ahead of the association's last word isn't taken, and comes again.
func TestBeforeTheLife(t *testing.T) {
	x := at(t, assoc.CookieEchoed)
	x.recv(x.take(0))
	late := x.take(0)
	x.say(1, 0, "early")
	x.settle()
	if x.side[0].State() != assoc.CookieEchoed || len(x.got[0]) != 0 {
		t.Fatalf("state %d, got %v", x.side[0].State(), x.got[0])
	}
	x.recv(late)
	x.joined("with the CookieAck")
	x.within("what came early", 30, x.run)
}

func TestTellsOfWhatIsUnknown(t *testing.T) {
	for kind := range 256 {
		if kind <= 11 || kind == 14 {
			continue
		}
		x := joinedPair(t)
		_, peer := x.firsts(0)
		strange := api.Chunk{Type: uint8(kind), Flags: 3, Value: []byte("abcde")}
		data := dataOf(t, api.Piece{TSN: peer, Begin: true, End: true, Bytes: []byte("a")})
		x.recv(flying{0, Parcel{1, made(t, x.tags(0).mine, strange, data)}})
		if got := len(x.got[0][x.tags(0)]) > 0; got != (kind >= 128) {
			t.Errorf("type %d: the rest of the packet is taken: %v", kind, got)
		}
		told := slices.ContainsFunc(x.air, func(f flying) bool { return f.has(api.Error) })
		if told != (kind&64 != 0) {
			t.Errorf("type %d: the other side is told: %v", kind, told)
		}
		if told {
			if f := x.find(api.Error); !bytes.Equal(read(t, f.Bytes).Chunks[0].Value, []byte{0, 6, 0, 8, uint8(kind), 3, 0, 9}) || x.recv(f) != api.OK {
				t.Errorf("type %d: told by %v", kind, f)
			}
		}
	}
}

func TestUnknownUnderAnotherTag(t *testing.T) {
	for _, s := range scenes {
		for _, tag := range append(otherTags(at(t, s.state)), max(at(t, s.state).tags(0).mine, 1)) {
			x := at(t, s.state)
			x.air = nil
			if e := x.recv(flying{0, Parcel{0, made(t, tag, api.Chunk{Type: 255})}}); e != api.OK {
				t.Errorf("an unknown chunk under %x in state %d: %d", tag, s.state, e)
			}
			if told := len(x.air) > 0; told != (tag == x.tags(0).mine && s.state >= assoc.Established) {
				t.Errorf("an unknown chunk under %x in state %d: told %v", tag, s.state, told)
			}
		}
	}
}

func TestBeatIsAnswered(t *testing.T) {
	for _, value := range []string{"", "a", "thirteenbytes", strings.Repeat("x", 1000), strings.Repeat("x", api.MaxBytes-16)} {
		for path := range api.MaxPaths {
			x := joinedPair(t)
			x.recv(flying{0, Parcel{path, made(t, x.tags(0).mine, api.Chunk{Type: api.Beat, Value: []byte(value)})}})
			f := x.find(api.BeatAck)
			p := read(t, f.Bytes)
			if f.Path != path || p.Tag != x.tags(0).peer || len(p.Chunks) != 1 || string(p.Chunks[0].Value) != value {
				t.Errorf("a Beat of %.20q on path %d is answered on %d by %v", value, path, f.Path, p)
			}
		}
	}
}

// TestWrongBeatAcks: what no Beat said changes nothing.
func TestWrongBeatAcks(t *testing.T) {
	for _, value := range [][]byte{
		nil, []byte("a"), make([]byte, 12), make([]byte, 14),
		beat{path: 0, sent: 0}.value(), beat{path: 1, sent: -1}.value(), beat{path: 1, sent: -30}.value(),
		beat{path: 2, sent: 0}.value(), beat{path: 255, sent: 0}.value(),
		beat{path: 0, sent: 1000}.value(), beat{path: 1, sent: math.MaxInt}.value(),
		beat{path: 0, sent: -api.MaxTime - 1000}.value(), beat{path: 1, sent: math.MinInt}.value(),
	} {
		for _, s := range scenes[assoc.Established:] {
			unchanged(t, s.state, fmt.Sprintf("a BeatAck of %x", value), api.OK, func(x *pair) api.Errno {
				return x.side[0].Recv(x.side[0].path, made(t, x.tags(0).mine, api.Chunk{Type: api.BeatAck, Value: value}), x.now, 0)
			})
		}
	}
}

func TestWrongData(t *testing.T) {
	x := joinedPair(t)
	_, peer := x.firsts(0)
	good := dataOf(t, api.Piece{TSN: peer, Begin: true, End: true, Bytes: []byte("a")})
	for _, c := range []api.Chunk{
		{Type: api.Data},
		{Type: api.Data, Flags: 3, Value: good.Value[:12]},
		{Type: api.Data, Flags: 3, Value: append(slices.Clone(good.Value), make([]byte, 256)...)},
		{Type: api.Data, Flags: 11, Value: good.Value},
		{Type: api.Sack, Value: good.Value},
		{Type: api.Sack},
	} {
		if e := x.recv(flying{0, Parcel{0, made(t, x.tags(0).mine, c)}}); e != api.OK || len(x.air) != 0 || len(x.got[0]) != 0 {
			t.Errorf("%v: %d, %v, %v", c, e, x.air, x.got[0])
		}
	}
	x.recv(flying{0, Parcel{0, made(t, x.tags(0).mine, good)}})
	if len(x.got[0][x.tags(0)]) != 1 || !x.air[0].has(api.Sack) {
		t.Errorf("a good one: %v, %v", x.got[0], x.air)
	}
}

// TestFullBox: pieces of messages that never end don't push out what was told to have arrived.
func TestFullBox(t *testing.T) {
	x := joinedPair(t)
	_, peer := x.firsts(0)
	put := func(p api.Piece) { x.recv(flying{0, Parcel{0, made(t, x.tags(0).mine, dataOf(t, p))}}) }
	for i := range uint32(api.MaxAhead) {
		put(api.Piece{TSN: peer + i, Begin: true, Bytes: []byte("a")})
	}
	x.air = nil
	put(api.Piece{TSN: peer + api.MaxAhead, Begin: true, End: true, Bytes: []byte("b")})
	h, e := chunk.ToHeard(read(t, x.find(api.Sack).Bytes).Chunks[0])
	if e != api.OK || h.Cum != peer+api.MaxAhead-1 || len(h.Gaps) != 0 {
		t.Errorf("the Sack says %v, %d", h, e)
	}
}

func TestSackSaysWhatArrived(t *testing.T) {
	x := joinedPair(t)
	_, peer := x.firsts(0)
	put := func(tsn uint32) api.Heard {
		x.air = nil
		x.recv(flying{0, Parcel{1, made(t, x.tags(0).mine, dataOf(t, api.Piece{TSN: tsn, Begin: true, End: true, Unordered: true, Bytes: []byte("a")}))}})
		f := x.find(api.Sack)
		p := read(t, f.Bytes)
		h, e := chunk.ToHeard(p.Chunks[0])
		if e != api.OK || p.Tag != x.tags(0).peer || h.Window != 65536 || f.Path != 1 {
			t.Errorf("a Sack on %d: %v", f.Path, p)
		}
		return h
	}
	for _, w := range []struct {
		tsn  uint32
		cum  uint32
		gaps []api.Gap
		dups []uint32
	}{
		{peer, peer, nil, nil},
		{peer + 2, peer, []api.Gap{{From: 2, To: 2}}, nil},
		{peer + 2, peer, []api.Gap{{From: 2, To: 2}}, []uint32{peer + 2}},
		{peer + 600, peer, []api.Gap{{From: 2, To: 2}}, nil}, // further ahead than may be
		{peer + 1, peer + 2, nil, nil},
		{peer, peer + 2, nil, []uint32{peer}},
	} {
		if h := put(w.tsn); h.Cum != w.cum || !slices.Equal(h.Gaps, w.gaps) || !slices.Equal(h.Dups, w.dups) {
			t.Errorf("after %d: %v, want %v", w.tsn, h, w)
		}
	}
	if got := x.got[0][x.tags(0)]; len(got) != 3 {
		t.Errorf("told: %v", got)
	}
}

func TestAbortIsHeard(t *testing.T) {
	x := joinedPair(t)
	x.abort(0)
	x.settle()
	x.events(1, assoc.Lost)
	x.events(0)
	if !x.both(assoc.Closed) {
		t.Errorf("states %d, %d", x.side[0].State(), x.side[1].State())
	}
}

func TestAbortOfStates(t *testing.T) {
	for _, s := range scenes {
		x := at(t, s.state)
		peer := x.tags(0).peer
		x.air, x.kinds = nil, [2][]int{}
		x.abort(0)
		if x.side[0].State() != assoc.Closed || x.tags(0) != (tags{}) || len(x.kinds[0]) != 0 {
			t.Errorf("Abort in state %d: state %d, tags %v, events %v", s.state, x.side[0].State(), x.tags(0), x.kinds[0])
		}
		if told := len(x.air) == 1 && x.air[0].has(api.Abort); told != (peer != 0) || len(x.air) > 1 {
			t.Errorf("Abort in state %d sends %v", s.state, x.air)
		}
		if peer != 0 && read(t, x.air[0].Bytes).Tag != peer {
			t.Errorf("Abort in state %d: under the tag %x", s.state, read(t, x.air[0].Bytes).Tag)
		}
		x.air = nil
		for range 300 {
			x.now++
			x.side[0].Tick(x.now)
			x.collect(0)
		}
		if len(x.air) != 0 || len(x.kinds[0]) != 0 {
			t.Errorf("after Abort in state %d: %v, %v", s.state, x.air, x.kinds[0])
		}
		if e := x.send(0, message(0, "a"), false); e != api.ErrState {
			t.Errorf("Send after Abort: %d", e)
		}
		x.abort(0)
		if e := x.open(0); e != api.OK {
			t.Errorf("Open after Abort: %d", e)
		}
		x.run(20)
		x.joined(fmt.Sprintf("opened anew after Abort in state %d", s.state))
		x.say(0, 0, "new")
		x.say(1, 0, "new")
		x.settle()
		x.whole("after Abort")
	}
}

func TestCloseWithMessagesOnTheWay(t *testing.T) {
	for _, lost := range []bool{false, true} {
		x := joinedPair(t)
		for i := range 40 {
			x.say(0, uint16(i%3), text(i, 700))
			x.say(1, uint16(i%3), text(i, 300))
		}
		life := [2]tags{x.tags(0), x.tags(1)}
		if lost {
			x.air = nil
		}
		x.close(0)
		if x.side[0].State() != assoc.Pending {
			t.Fatalf("state %d", x.side[0].State())
		}
		for range 200 {
			x.run(1)
			if e := x.send(0, message(0, "a"), false); e != api.ErrState {
				t.Errorf("Send after Close: %d", e)
			}
		}
		x.events(0, assoc.Over)
		x.events(1, assoc.Over)
		if !x.both(assoc.Closed) || len(x.got[0][life[0]]) != 40 || len(x.got[1][life[1]]) != 40 {
			t.Errorf("states %d, %d, got %d and %d", x.side[0].State(), x.side[1].State(), len(x.got[0][life[0]]), len(x.got[1][life[1]]))
		}
		x.delivered()
	}
}

// TestCloseOfOneWhoHears: the side that is told to close sends what it has, and the other one takes it.
func TestCloseOfOneWhoHears(t *testing.T) {
	x := joinedPair(t)
	for i := range 100 {
		x.say(1, 4, text(i, 500))
	}
	life := x.tags(0)
	x.air = nil
	x.close(0)
	x.settle()
	if x.side[0].State() != assoc.ShutSent || x.side[1].State() != assoc.ShutReceived {
		t.Fatalf("states %d, %d", x.side[0].State(), x.side[1].State())
	}
	x.run(100)
	x.events(0, assoc.Over)
	x.events(1, assoc.Over)
	if n := len(x.got[0][life]); n != 100 {
		t.Errorf("%d of 100 arrived", n)
	}
	x.delivered()
}

func TestBothCloseAtOnce(t *testing.T) {
	x := joinedPair(t)
	for i := range 20 {
		x.say(0, 0, text(i, 400))
		x.say(1, 0, text(i, 400))
	}
	life := [2]tags{x.tags(0), x.tags(1)}
	x.close(0)
	x.close(1)
	x.run(30)
	if !x.both(assoc.Closed) || len(x.got[0][life[0]]) != 20 || len(x.got[1][life[1]]) != 20 {
		t.Errorf("states %d, %d", x.side[0].State(), x.side[1].State())
	}
	x.events(0, assoc.Over)
	x.events(1, assoc.Over)
}

func TestBothOpenAtOnce(t *testing.T) {
	for seed := range int64(200) {
		x := newPair(t)
		r := dice(seed)
		x.open(0)
		x.open(1)
		for len(x.air) > 0 {
			if f := x.air[r.Intn(len(x.air))]; r.Intn(4) == 0 {
				x.air = append(x.air, f)
			}
			x.recv(x.take(r.Intn(len(x.air))))
		}
		x.joined("both opened")
		x.events(0, assoc.Up)
		x.events(1, assoc.Up)
		x.say(0, 0, "one")
		x.say(1, 0, "other")
		x.settle()
		x.whole("both opened")
	}
}

// TestOneBeginsAnew: the other one knows it still, and what was for the old one is not for the new one.
func TestOneBeginsAnew(t *testing.T) {
	for s := range 2 {
		x := joinedPair(t)
		var old []flying
		for i := range 60 {
			x.say(s, 0, text(i, 600))
			x.say(1-s, 0, text(i, 600))
			old = append(old, x.air...)
			if i%3 == 0 {
				x.round()
			} else {
				x.air = nil
			}
			x.tick()
		}
		old = append(old, x.air...)
		x.air = nil
		x.renew(s)
		x.kinds = [2][]int{}
		x.open(s)
		x.settle()
		x.joined("begun anew")
		x.events(s, assoc.Up)
		x.events(1-s, assoc.Restart)
		for i := range 3 {
			x.say(s, 0, text(100+i, 600))
			x.say(1-s, 0, text(200+i, 600))
			for _, f := range old {
				x.recv(f)
			}
			x.settle()
		}
		x.joined("with what is old")
		x.whole("with what is old")
		x.events(s)
		x.events(1 - s)
	}
}

// TestLateFromFormerLife: every packet of one life comes again in every state of the next one.
func TestLateFromFormerLife(t *testing.T) {
	x := newPair(t)
	var old []flying
	keep := func() {
		for len(x.air) > 0 {
			f := x.take(0)
			old = append(old, f)
			x.recv(f)
		}
	}
	x.open(0)
	keep()
	for i := range 30 {
		x.say(0, 1, text(i, 300))
		x.say(1, 1, text(i, 300))
		x.tick()
		keep()
	}
	x.close(1)
	keep()
	again := func() {
		for _, f := range old {
			before := x.side[f.to].State()
			x.recv(f)
			if x.side[f.to].State() != before {
				t.Fatalf("%x changes the state from %d to %d", f.Bytes, before, x.side[f.to].State())
			}
		}
	}
	again()
	x.air = nil
	x.open(1)
	again()
	x.run(13)
	x.joined("the second life")
	for i := range 5 {
		x.say(0, 1, text(100+i, 300))
		again()
		x.say(1, 1, text(100+i, 300))
		x.run(1)
	}
	again()
	x.whole("the second life")
}

func TestTagsGoRound(t *testing.T) {
	for _, draw := range []uint32{0, 1, 3, 100, math.MaxUint32} {
		a, _ := New(0, 1, 1<<32)
		b, _ := New(1, 0, 2<<32)
		x := newPair(t)
		x.side = [2]*Link{a, b}
		a.Open(0, draw)
		x.collect(0)
		init := x.take(0)
		b.Recv(0, init.Bytes, 0, draw+1<<12)
		x.collect(1)
		x.settle()
		x.joined("with small draws")
		r := dice(int64(draw))
		for i := range 300 {
			x.send(i%2, message(uint16(r.Intn(2)), text(i, 1+r.Intn(600))), r.Intn(3) == 0)
			if r.Intn(5) == 0 {
				x.tick()
			}
			for range r.Intn(4) {
				if len(x.air) > 0 {
					f := x.take(r.Intn(len(x.air)))
					if r.Intn(6) != 0 {
						x.recv(f)
					}
				}
			}
		}
		x.within(fmt.Sprintf("draw %d", draw), 400, x.run)
	}
}

func TestNumbersOfMessagesGoRound(t *testing.T) {
	x := joinedPair(t)
	count := 0
	for i := range 65536 + 300 {
		for x.side[0].Send(message(5, fmt.Sprint(i)), false, 0) != api.OK {
			t.Fatalf("no room at %d", i)
		}
		for s := 0; ; s = 1 - s {
			parcels := x.side[s].Take()
			if len(parcels) == 0 {
				break
			}
			for _, p := range parcels {
				if e := x.side[1-s].Recv(p.Path, p.Bytes, 0, 0); e != api.OK {
					t.Fatalf("Recv: %d", e)
				}
			}
		}
		for _, n := range x.side[1].Told() {
			if n.Kind != arrived || string(n.Message.Bytes) != fmt.Sprint(count) {
				t.Fatalf("told %v instead of %d", n, count)
			}
			count++
		}
	}
	if count != 65536+300 {
		t.Errorf("%d were told", count)
	}
}

// TestEveryOrder lets three messages arrive in every order.
func TestEveryOrder(t *testing.T) {
	for _, order := range [][]int{{0, 1, 2}, {0, 2, 1}, {1, 0, 2}, {1, 2, 0}, {2, 0, 1}, {2, 1, 0}} {
		x := joinedPair(t)
		for i := range 3 {
			x.say(0, 6, text(i, 20))
		}
		sent := slices.Clone(x.air)
		x.air = nil
		for _, i := range order {
			x.recv(sent[i])
			x.recv(sent[i])
		}
		x.whole(fmt.Sprint(order))
		if got := x.got[1][x.tags(1)]; string(got[0].Bytes[:2]) != "0:" || string(got[2].Bytes[:2]) != "2:" {
			t.Errorf("order %v: %v", order, got)
		}
	}
}

// TestUnorderedDoesNotWait: it is told ahead of what was sent before it and is still missing.
func TestUnorderedDoesNotWait(t *testing.T) {
	x := joinedPair(t)
	x.say(0, 6, "ordered")
	x.send(0, message(6, "loose"), true)
	x.say(0, 5, "another stream")
	first := x.take(0)
	x.settle()
	got := x.got[1][x.tags(1)]
	if len(got) != 2 || string(got[0].Bytes) != "loose" || string(got[1].Bytes) != "another stream" {
		t.Errorf("told %v", got)
	}
	x.recv(first)
	x.settle()
	x.whole("with the first one")
}

func TestSizes(t *testing.T) {
	x := joinedPair(t)
	for i, size := range []int{1, 2, 3, 4, 5, 255, 256, 257, 511, 512, 513, 4095, 4096} {
		for _, unordered := range []bool{false, true} {
			b := bytes.Repeat([]byte{byte(i)}, size)
			b[size-1] = 200
			if e := x.send(0, api.Message{Stream: uint16(i % 8), Bytes: b}, unordered); e != api.OK {
				t.Errorf("Send of %d bytes: %d", size, e)
			}
			x.settle()
			got := x.got[1][x.tags(1)]
			if last := got[len(got)-1]; !bytes.Equal(last.Bytes, b) || last.Stream != uint16(i%8) {
				t.Errorf("%d bytes: told %d", size, len(last.Bytes))
			}
		}
	}
	x.whole("sizes")
}
