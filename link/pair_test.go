package link

import (
	"fmt"
	"math/rand"
	"slices"
	"strings"
	"testing"

	"trunkline/api"
	"trunkline/assoc"
	"trunkline/chunk"
	"trunkline/packet"
)

// flying is a packet between two sides.
type flying struct {
	to int
	Parcel
}

// tags is a life, as its side knows it.
type tags struct{ mine, peer uint32 }

// letter is a message that was sent.
type letter struct {
	api.Message
	unordered bool
}

// pair is two links, what is between them, and what was seen of them.
type pair struct {
	t     testing.TB
	side  [2]*Link
	now   int
	drawn uint32
	keyed uint64
	air   []flying
	loses func(f flying) bool // nil if nothing is lost
	sent  [2]map[tags][]letter
	got   [2]map[tags][]api.Message
	kinds [2][]int         // of the events
	trace *strings.Builder // nil if nobody asks what happened
}

func newPair(t testing.TB) *pair {
	t.Helper()
	x := &pair{t: t}
	for s := range 2 {
		x.sent[s], x.got[s] = map[tags][]letter{}, map[tags][]api.Message{}
		x.renew(s)
	}
	return x
}

// renew puts a new link in the place of a side, with a key that is far from all others.
func (x *pair) renew(s int) {
	x.t.Helper()
	x.keyed++
	l, e := New(s, 1-s, x.keyed<<32)
	if e != api.OK {
		x.t.Fatalf("New: %d", e)
	}
	x.side[s] = l
}

// draw returns numbers that are far from each other.
func (x *pair) draw() uint32 {
	x.drawn++
	return x.drawn * 2654435769
}

func (x *pair) tags(s int) tags {
	mine, peer := x.side[s].Tags()
	return tags{mine, peer}
}

// collect takes what a call on a side brought.
func (x *pair) collect(s int) {
	x.t.Helper()
	for _, p := range x.side[s].Take() {
		x.measure(p)
		x.note("%d sends on %d: %x\n", s, p.Path, p.Bytes)
		x.air = append(x.air, flying{1 - s, p})
	}
	life := x.tags(s)
	for _, n := range x.side[s].Told() {
		x.note("%d tells %v\n", s, n)
		if n.Kind == arrived {
			x.got[s][life] = append(x.got[s][life], n.Message)
		} else {
			x.kinds[s] = append(x.kinds[s], n.Kind)
		}
	}
}

func (x *pair) note(form string, values ...any) {
	if x.trace != nil {
		fmt.Fprintf(x.trace, form, values...)
	}
}

// measure holds a packet against what P15.5 says of it.
func (x *pair) measure(p Parcel) {
	x.t.Helper()
	q, e := packet.Get(p.Bytes)
	if e != api.OK || p.Path < 0 || p.Path >= api.MaxPaths {
		x.t.Fatalf("a parcel on %d: %x, %d", p.Path, p.Bytes, e)
	}
	if len(p.Bytes) > api.Mtu && len(q.Chunks) != 1 {
		x.t.Fatalf("a packet of %d bytes with %d chunks", len(p.Bytes), len(q.Chunks))
	}
}

func (x *pair) open(s int) api.Errno {
	x.t.Helper()
	e := x.side[s].Open(x.now, x.draw())
	x.collect(s)
	return e
}

func (x *pair) close(s int) api.Errno {
	x.t.Helper()
	e := x.side[s].Close(x.now)
	x.collect(s)
	return e
}

func (x *pair) abort(s int) {
	x.t.Helper()
	x.side[s].Abort()
	x.collect(s)
}

func (x *pair) send(s int, m api.Message, unordered bool) api.Errno {
	x.t.Helper()
	life := x.tags(s)
	e := x.side[s].Send(m, unordered, x.now)
	if e == api.OK {
		x.sent[s][life] = append(x.sent[s][life], letter{m, unordered})
	}
	x.collect(s)
	return e
}

// say sends an ordered message that has to be taken.
func (x *pair) say(s int, stream uint16, text string) {
	x.t.Helper()
	if e := x.send(s, message(stream, text), false); e != api.OK {
		x.t.Fatalf("Send of %.20q: %d", text, e)
	}
}

func (x *pair) tick() {
	x.t.Helper()
	x.now++
	for s := range 2 {
		x.side[s].Tick(x.now)
		x.collect(s)
	}
}

// recv lets a packet arrive.
func (x *pair) recv(f flying) api.Errno {
	x.t.Helper()
	e := x.side[f.to].Recv(f.Path, f.Bytes, x.now, x.draw())
	x.collect(f.to)
	return e
}

// take removes a packet from the air.
func (x *pair) take(at int) flying {
	f := x.air[at]
	if at == 0 { // most often, and there may be many behind it
		x.air = x.air[1:]
	} else {
		x.air = slices.Delete(x.air, at, at+1)
	}
	return f
}

// round lets what is in the air arrive, but not what is sent because of it.
func (x *pair) round() {
	x.t.Helper()
	for range len(x.air) {
		if f := x.take(0); x.loses == nil || !x.loses(f) {
			x.recv(f)
		}
	}
}

// settle lets everything arrive.
func (x *pair) settle() {
	x.t.Helper()
	for len(x.air) > 0 {
		x.round()
	}
}

// run lets the time go on: everything arrives before the next tick.
func (x *pair) run(ticks int) {
	x.t.Helper()
	for range ticks {
		x.tick()
		x.settle()
	}
}

// slowly does so too, but nothing that is sent because of a packet leaves before the next tick.
func (x *pair) slowly(ticks int) {
	x.t.Helper()
	for range ticks {
		x.tick()
		x.round()
	}
}

// joined says that both sides are established with each other.
func (x *pair) joined(what string) {
	x.t.Helper()
	a, b := x.tags(0), x.tags(1)
	if !x.both(assoc.Established) || a.mine != b.peer || a.peer != b.mine || a.mine == 0 || a.peer == 0 {
		x.t.Fatalf("%s: states %d, %d, tags %v, %v", what, x.side[0].State(), x.side[1].State(), a, b)
	}
}

func (x *pair) both(state int) bool {
	return x.side[0].State() == state && x.side[1].State() == state
}

// joinedPair returns a pair that is established.
func joinedPair(t testing.TB) *pair {
	t.Helper()
	x := newPair(t)
	x.open(0)
	x.settle()
	x.joined("after Open")
	x.kinds = [2][]int{}
	return x
}

// events says which events a side told since it was asked last.
func (x *pair) events(s int, want ...int) {
	x.t.Helper()
	if !slices.Equal(x.kinds[s], want) {
		x.t.Errorf("events of side %d: %v, want %v", s, x.kinds[s], want)
	}
	x.kinds[s] = nil
}

// delivered holds what every life was told against what the other side's life sent, as P15.3 says.
func (x *pair) delivered() {
	x.t.Helper()
	for s := range 2 {
		for life, got := range x.got[s] {
			x.inOrder(s, life, got, x.sent[1-s][tags{life.peer, life.mine}])
		}
	}
}

func (x *pair) inOrder(s int, life tags, got []api.Message, sent []letter) {
	x.t.Helper()
	ordered := map[uint16][]string{}
	loose := map[string]int{}
	for _, m := range sent {
		if m.unordered {
			loose[fmt.Sprint(m.Stream, " ", string(m.Bytes))]++
		} else {
			ordered[m.Stream] = append(ordered[m.Stream], string(m.Bytes))
		}
	}
	for _, m := range got {
		name := fmt.Sprint(m.Stream, " ", string(m.Bytes))
		rest := ordered[m.Stream]
		switch {
		case len(rest) > 0 && rest[0] == string(m.Bytes):
			ordered[m.Stream] = rest[1:]
		case loose[name] > 0:
			loose[name]--
		default:
			x.t.Fatalf("side %d, life %v: %.30q on stream %d wasn't sent, or comes twice, or out of its turn", s, life, m.Bytes, m.Stream)
		}
	}
}

// missing returns how many messages have not arrived yet in the lives that there are.
func (x *pair) missing() int {
	count := 0
	for s := range 2 {
		life := x.tags(s)
		count += len(x.sent[1-s][tags{life.peer, life.mine}]) - len(x.got[s][life])
	}
	return count
}

// whole says that everything which was sent in these lives has arrived, and as it should.
func (x *pair) whole(what string) {
	x.t.Helper()
	x.delivered()
	if n := x.missing(); n != 0 {
		x.t.Fatalf("%s: %d messages are missing", what, n)
	}
}

// within lets the time go on by at most that many ticks, and says that everything arrives meanwhile.
func (x *pair) within(what string, ticks int, run func(ticks int)) {
	x.t.Helper()
	for i := 0; i < ticks && x.missing() > 0; i++ {
		run(1)
	}
	x.whole(what)
}

func message(stream uint16, text string) api.Message {
	return api.Message{Stream: stream, Bytes: []byte(text)}
}

// text returns a text of that many bytes that begins with a number.
func text(number, size int) string {
	s := fmt.Sprintf("%d:", number)
	return s + strings.Repeat("x", max(0, size-len(s)))
}

// made returns the bytes of a packet with that Tag.
func made(t testing.TB, tag uint32, chunks ...api.Chunk) []byte {
	t.Helper()
	b, e := packet.Put(api.Packet{From: 1, To: 2, Tag: tag, Chunks: chunks})
	if e != api.OK {
		t.Fatalf("packet.Put: %d", e)
	}
	return b
}

// read returns the packet whose bytes b is.
func read(t testing.TB, b []byte) api.Packet {
	t.Helper()
	p, e := packet.Get(b)
	if e != api.OK {
		t.Fatalf("packet.Get: %d", e)
	}
	return p
}

// has reports whether a packet in the air has a chunk of that type.
func (f flying) has(kind uint8) bool {
	p, _ := packet.Get(f.Bytes)
	return slices.ContainsFunc(p.Chunks, func(c api.Chunk) bool { return c.Type == kind })
}

// find removes the first packet in the air with a chunk of that type.
func (x *pair) find(kind uint8) flying {
	x.t.Helper()
	at := slices.IndexFunc(x.air, func(f flying) bool { return f.has(kind) })
	if at < 0 {
		x.t.Fatalf("no chunk %d is in the air", kind)
	}
	return x.take(at)
}

// dead loses everything on a path.
func dead(path int) func(f flying) bool {
	return func(f flying) bool { return f.Path == path }
}

func everything(flying) bool { return true }

// firsts returns the first TSNs of a side's life, and of the other side's.
func (x *pair) firsts(s int) (mine, peer uint32) { return x.side[s].side.Firsts() }

func dataOf(t testing.TB, p api.Piece) api.Chunk {
	t.Helper()
	c, e := chunk.FromPiece(p)
	if e != api.OK {
		t.Fatalf("FromPiece: %d", e)
	}
	return c
}

func sackOf(t testing.TB, h api.Heard) api.Chunk {
	t.Helper()
	c, e := chunk.FromHeard(h)
	if e != api.OK {
		t.Fatalf("FromHeard: %d", e)
	}
	return c
}

func dice(seed int64) *rand.Rand { return rand.New(rand.NewSource(seed)) }
