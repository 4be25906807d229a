package link

import (
	"fmt"
	"math"
	"math/rand"
	"slices"
	"strings"
	"testing"

	"trunkline/api"
	"trunkline/assoc"
	"trunkline/chunk"
)

// flow is how packets arrive before the next tick.
type flow struct {
	name string
	run  func(x *pair, ticks int)
}

var flows = []flow{
	{"at once", (*pair).run},
	{"slowly", (*pair).slowly},
	{"any way round", func(x *pair, ticks int) {
		x.t.Helper()
		r := dice(int64(x.now))
		for range ticks {
			x.tick()
			r.Shuffle(len(x.air), func(i, j int) { x.air[i], x.air[j] = x.air[j], x.air[i] })
			x.round()
			x.settle()
		}
	}},
}

// losses are what is always lost, and within how many ticks a message arrives nevertheless.
var losses = []struct {
	name  string
	loses func(f flying) bool
	ticks int
}{
	{"nothing", nil, 400},
	{"path 0", dead(0), 600},
	{"path 1", dead(1), 600},
}

func TestEstablishedSoon(t *testing.T) {
	for _, way := range flows {
		for _, lost := range losses {
			for s := range 2 {
				for _, start := range []int{0, 1, 1000, api.MaxTime - 100} {
					x := newPair(t)
					x.loses, x.now = lost.loses, start
					x.open(s)
					x.round()
					way.run(x, 20)
					x.joined(fmt.Sprintf("%s, without %s, opened by %d at %d", way.name, lost.name, s, start))
					x.events(0, assoc.Up)
					x.events(1, assoc.Up)
				}
			}
		}
	}
}

// TestEstablishedAfterLosses: the side that opened is still trying when packets begin to arrive.
func TestEstablishedAfterLosses(t *testing.T) {
	for before := range 90 {
		x := newPair(t)
		x.loses = everything
		x.open(before % 2)
		x.run(before)
		x.loses = nil
		x.slowly(20)
		x.joined(fmt.Sprintf("after %d ticks", before))
	}
}

func TestBothEstablishedSoon(t *testing.T) {
	for _, way := range flows {
		for _, lost := range losses {
			for later := range 20 {
				x := newPair(t)
				x.loses = lost.loses
				x.open(0)
				way.run(x, later)
				x.open(1) // in many states, some of which refuse it
				way.run(x, 20)
				x.joined(fmt.Sprintf("%s, without %s, the second one %d later", way.name, lost.name, later))
				x.say(0, 0, "a")
				x.say(1, 0, "b")
				x.within("both opened", lost.ticks, func(n int) { way.run(x, n) })
			}
		}
	}
}

// fill sends from both sides what there is room for.
func (x *pair) fill(size int) {
	for s := range 2 {
		for i := 0; ; i++ {
			m := message(uint16(i%8), text(x.now*1000+i, size))
			if x.send(s, m, i%5 == 4) != api.OK {
				break
			}
		}
	}
}

func TestReportedSoon(t *testing.T) {
	for _, way := range flows {
		for _, lost := range losses {
			for _, size := range []int{1, 256, 4096} {
				x := newPair(t)
				x.loses = lost.loses
				x.open(0)
				x.run(20)
				x.joined("at the beginning")
				x.fill(size)
				x.within(fmt.Sprintf("%s, without %s, %d bytes", way.name, lost.name, size), lost.ticks, func(n int) { way.run(x, n) })
			}
		}
	}
}

// TestReportedSoonAfterLosses: nothing arrived for a while, in one direction or in both.
func TestReportedSoonAfterLosses(t *testing.T) {
	for _, way := range flows {
		for _, lost := range losses {
			for _, before := range []int{1, 7, 40, 130, 700} {
				for _, deaf := range []func(f flying) bool{everything, func(f flying) bool { return f.to == 0 }, func(f flying) bool { return f.to == 1 }} {
					x := joinedPair(t)
					x.loses = deaf
					for range before {
						if x.now%10 == 0 {
							x.fill(600)
						}
						way.run(x, 1)
					}
					x.air = nil
					x.fill(256)
					x.loses = lost.loses
					what := fmt.Sprintf("%s, without %s, after %d ticks", way.name, lost.name, before)
					x.within(what, lost.ticks, func(n int) { way.run(x, n) })
					x.joined(what)
				}
			}
		}
	}
}

// TestPathsDieByTurns: the one that is left is found each time, and as soon as it has to be.
func TestPathsDieByTurns(t *testing.T) {
	for _, way := range flows {
		for _, life := range []int{3, 100} {
			x := joinedPair(t)
			for turn := range 6 {
				x.loses = dead(turn % 2)
				for i := range life {
					if i%10 == 0 {
						x.fill(300)
					}
					way.run(x, 1)
				}
			}
			x.within(fmt.Sprintf("%s, %d ticks each", way.name, life), 600, func(n int) { way.run(x, n) })
			x.say(0, 0, "at last")
			x.within("the last one", 100, func(n int) { way.run(x, n) })
		}
	}
}

// TestOnTheLivingPath: when it is known which path is dead, if only in one direction, what is sent goes on the other one at once.
func TestOnTheLivingPath(t *testing.T) {
	for path := range api.MaxPaths {
		for _, to := range [][]int{{0, 1}, {0}, {1}} {
			x := joinedPair(t)
			x.loses = func(f flying) bool { return f.Path == path && slices.Contains(to, f.to) }
			x.run(100)
			for s := range 2 {
				x.hear(s, path) // as late as can be
				x.say(s, 0, "now")
				x.settle()
			}
			x.whole(fmt.Sprintf("path %d is dead to %v", path, to))
		}
	}
}

// TestDeadPathIsLeft: what is lost on a path goes on the other one the next time.
func TestDeadPathIsLeft(t *testing.T) {
	for path := range api.MaxPaths {
		x := joinedPair(t)
		x.run(3)
		x.loses = dead(path)
		for s := range 2 {
			x.hear(s, path)
			x.say(s, 0, text(s, 3000))
		}
		x.within(fmt.Sprintf("path %d", path), 5, x.run)
	}
}

// TestNothingIsSentTwice: if nothing is lost, however long it goes on.
func TestNothingIsSentTwice(t *testing.T) {
	x := joinedPair(t)
	x.slowly(3) // the first Beats are answered
	seen := map[string]int{}
	x.loses = func(f flying) bool {
		for _, c := range read(t, f.Bytes).Chunks {
			if c.Type == api.Data {
				seen[fmt.Sprint(f.to, c.Value[:4])]++
			}
		}
		return false
	}
	for range 300 {
		if x.now%3 == 0 {
			x.fill(100)
		}
		x.slowly(1)
	}
	for tsn, n := range seen {
		if n != 1 {
			t.Fatalf("the piece %s is sent %d times", tsn, n)
		}
	}
	if len(seen) < 5000 {
		t.Errorf("%d pieces", len(seen))
	}
}

// TestNothingIsAskedInVain: on a quiet link each path is asked from time to time, and no more.
func TestNothingIsAskedInVain(t *testing.T) {
	for _, lost := range losses {
		x := joinedPair(t)
		x.loses = lost.loses
		count := 0
		for range 3000 {
			x.tick()
			count += len(x.air)
			x.settle()
		}
		if count < 2*2*3000/60 || count > 2*2*3000/15 {
			t.Errorf("without %s: %d packets in 3000 ticks", lost.name, count)
		}
		x.joined("quiet")
		x.events(0)
		x.events(1)
	}
}

// TestLateCookie: a CookieEcho of an opening that was given up establishes a side anew, with a life that the other one has left. Then both are Established, but nothing can arrive: that has to end.
func TestLateCookie(t *testing.T) {
	for _, lost := range losses {
		x := newPair(t)
		x.open(1)
		x.air = nil
		x.open(0)
		x.recv(x.take(0))
		x.recv(x.take(0))
		late := x.take(0)
		x.abort(0)
		x.air = nil
		x.open(0)
		x.settle()
		x.joined("at the second try")
		x.kinds = [2][]int{}
		x.loses = lost.loses
		x.recv(late)
		x.events(1, assoc.Restart)
		x.say(0, 0, "to nobody")
		x.say(1, 0, "to nobody")
		x.run(lost.ticks)
		if x.both(assoc.Established) {
			t.Fatalf("without %s: both are Established still, with %v and %v", lost.name, x.tags(0), x.tags(1))
		}
		x.events(1, assoc.Lost)
		x.delivered()
		x.open(1)
		x.run(20)
		x.joined("once more")
		x.say(0, 0, "to somebody")
		x.say(1, 0, "to somebody")
		x.within("once more", lost.ticks, x.run)
	}
}

// TestLateBeats: some Beats of a life that the other side has left don't end the new one, as long as there is a sign of the other side now and then.
func TestLateBeats(t *testing.T) {
	for i, loses := range []func(f flying) bool{
		func(f flying) bool { return false },
		func(f flying) bool { return f.to == 0 && f.has(api.Beat) },
		func(f flying) bool { return f.to == 1 && f.has(api.Beat) },
	} {
		x := joinedPair(t)
		x.loses = loses
		late := made(t, x.tags(0).mine, api.Chunk{Type: api.Beat, Value: beat{path: 1, sent: 3, from: 99}.value()})
		for range 50 {
			for range 2 {
				x.recv(flying{0, Parcel{0, late}})
			}
			x.run(40)
		}
		for range 10 {
			x.recv(flying{0, Parcel{0, made(t, x.tags(0).mine, api.Chunk{Type: api.Beat, Value: []byte("thirteenbytes")[:12]})}})
		}
		x.joined(fmt.Sprintf("case %d", i))
		x.events(0)
	}
}

// TestBeatAckComesAgain: only the first answer to the last Beat is one.
func TestBeatAckComesAgain(t *testing.T) {
	x := joinedPair(t)
	var answers []flying
	x.loses = func(f flying) bool {
		if f.to == 0 && f.has(api.BeatAck) {
			answers = append(answers, f)
		}
		return false
	}
	for range 100 {
		x.run(1)
		before := x.side[0].life.roads
		for _, f := range answers {
			x.recv(f)
		}
		if x.side[0].life.roads != before {
			t.Fatalf("at %d: %v, and was %v", x.now, x.side[0].life.roads, before)
		}
	}
	if len(answers) < 4 {
		t.Errorf("%d answers", len(answers))
	}
}

// TestWithinMtu: packets carry as much as they may, to the last byte.
func TestWithinMtu(t *testing.T) {
	x := joinedPair(t)
	for i := range 100 { // Data of 248 and 252 bytes, so that two of them with a packet's head have 512
		x.say(0, 0, text(i, 232+i%2*4))
	}
	longest := 0
	for len(x.air) > 0 {
		f := x.take(0)
		longest = max(longest, len(f.Bytes))
		x.recv(f)
	}
	if longest != api.Mtu {
		t.Errorf("the longest packet has %d bytes", longest)
	}
	x.whole("within Mtu")
	r := dice(9)
	for i := range 3000 {
		x.send(i%2, message(uint16(r.Intn(8)), text(i, 1+r.Intn(1+r.Intn(500)))), false)
		if len(x.air) > 0 && r.Intn(3) > 0 {
			x.recv(x.take(0))
		}
	}
	x.settle()
	x.whole("within Mtu")
}

// TestManyPieces: as many small ones as a packet may have.
func TestManyPieces(t *testing.T) {
	x := joinedPair(t)
	for i := range 256 {
		x.say(0, 0, text(i, 1))
	}
	x.air = nil
	most := 0
	for range 40 {
		x.tick()
		for len(x.air) > 0 {
			f := x.take(0)
			most = max(most, len(read(t, f.Bytes).Chunks))
			x.recv(f)
		}
	}
	if most != (api.Mtu-12)/20 {
		t.Errorf("the most chunks of a packet: %d", most)
	}
	x.whole("small ones")
}

// hear lets a side hear the other one on a path, so that of good paths it takes this one.
func (x *pair) hear(s, path int) {
	x.t.Helper()
	x.recv(flying{s, Parcel{path, made(x.t, x.tags(s).mine, api.Chunk{Type: api.Beat})}})
}

// grow opens the windows of a side's paths as far as they go.
func grow(x *pair, s int) {
	x.t.Helper()
	for path := range api.MaxPaths {
		for i := 0; x.side[s].life.roads[path].Cwnd < 65536; i++ {
			if i == 1000 {
				x.t.Fatalf("the window of path %d: %v", path, x.side[s].life.roads[path])
			}
			x.hear(s, path)
			x.fill(256)
			x.run(1)
		}
	}
	x.run(60)
	x.whole("windows")
}

// TestTickAtOneTime: everything that was in flight on one path is lost, and the other one has room for it.
func TestTickAtOneTime(t *testing.T) {
	for _, later := range []int{4, 30, 100000} {
		for path := range api.MaxPaths {
			x := joinedPair(t)
			grow(x, 0)
			x.hear(0, path)
			x.air = nil
			for range 256 {
				x.say(0, 0, text(1, 256))
			}
			if n := len(x.air); n != 256 {
				t.Fatalf("%d packets in flight", n)
			}
			x.air = nil
			count := 0
			for range 1000 {
				x.side[0].Tick(x.now + later)
				count += len(x.side[0].Take())
			}
			if count > api.MaxOut || later > 64 && count < 100 {
				t.Errorf("%d ticks later: %d packets at one time", later, count)
			}
		}
	}
}

func TestTickAtOneTimeOfStates(t *testing.T) {
	for _, s := range scenes {
		for _, now := range []int{math.MinInt64, -1 << 60, -5, 0, 1, 12, 30, 1000, 1 << 60, math.MaxInt64} {
			x := at(t, s.state)
			x.air = nil
			count := 0
			for range 1000 {
				x.side[0].Tick(now)
				count += len(x.side[0].Take())
			}
			if count > api.MaxOut {
				t.Errorf("state %d at %d: %d packets", s.state, now, count)
			}
		}
	}
}

// TestNothingWithoutACall: a link that is only looked at sends nothing.
func TestNothingWithoutACall(t *testing.T) {
	for _, s := range scenes {
		x := at(t, s.state)
		for range 100 {
			x.side[0].State()
			x.side[0].Tags()
			if len(x.side[0].Take()) != 0 || len(x.side[0].Told()) != 0 {
				t.Errorf("state %d: something comes without a call", s.state)
			}
		}
	}
}

// storm is a network that does everything it may, and two sides that do too.
type storm struct {
	*pair
	r                  *rand.Rand
	lossy, wild, count int
}

func (x *storm) step() {
	switch n := x.r.Intn(100); {
	case n < 50 && len(x.air) > 0:
		x.one()
	case n < 60:
		x.tick()
	case n < 88:
		x.count++
		x.send(x.r.Intn(2), message(uint16(x.r.Intn(3)), text(x.count, 1+x.r.Intn(700))), x.r.Intn(4) == 0)
	case n < 91:
		x.open(x.r.Intn(2))
	case x.r.Intn(100) < x.wild:
		s := x.r.Intn(2)
		switch x.r.Intn(3) {
		case 0:
			x.renew(s)
		case 1:
			x.close(s)
		case 2:
			x.abort(s)
		}
	}
}

// one does something to a packet in the air.
func (x *storm) one() {
	f := x.take(x.r.Intn(len(x.air)))
	switch n := x.r.Intn(100); {
	case n < x.lossy:
	case n < x.lossy+5: // it comes, and comes again
		x.air = append(x.air, f)
		x.recv(f)
	case n < x.lossy+8:
		f.Bytes = slices.Clone(f.Bytes)
		f.Bytes[x.r.Intn(len(f.Bytes))] ^= byte(1 + x.r.Intn(255))
		if e := x.recv(f); e == api.OK || e == api.ErrTag {
			x.t.Fatalf("a turned packet: %d", e)
		}
	case x.loses == nil || !x.loses(f):
		x.recv(f)
	}
}

// TestStorm: P15.3 at any time, and P15.4 when the network has become good.
func TestStorm(t *testing.T) {
	whole := 0
	for seed := range int64(800) {
		r := dice(seed)
		lost := losses[r.Intn(len(losses))]
		x := &storm{pair: newPair(t), r: r, lossy: r.Intn(50), wild: r.Intn(2) * r.Intn(60)}
		x.loses = lost.loses
		for range 100 + r.Intn(700) {
			x.step()
		}
		x.delivered()
		way := flows[r.Intn(len(flows))]
		for range lost.ticks {
			way.run(x.pair, 1)
			if x.missing() == 0 {
				break
			}
		}
		x.delivered()
		if x.both(assoc.Established) {
			x.joined(fmt.Sprintf("seed %d", seed))
			x.whole(fmt.Sprintf("seed %d, %s, without %s", seed, way.name, lost.name))
			whole++
		}
		x.abort(0)
		x.abort(1)
		x.settle()
		x.open(r.Intn(2))
		way.run(x.pair, 20)
		x.joined(fmt.Sprintf("seed %d, once more", seed))
	}
	if whole < 250 {
		t.Errorf("only %d went on to the end", whole)
	}
}

func TestTwiceTheSame(t *testing.T) {
	for seed := range int64(20) {
		var traces [3]string
		for i := range traces {
			r := dice(seed)
			x := &storm{pair: newPair(t), r: r, lossy: 20, wild: 20}
			x.trace = new(strings.Builder)
			for range 500 {
				x.step()
			}
			x.run(50)
			traces[i] = x.trace.String()
		}
		if traces[0] != traces[1] || traces[0] != traces[2] || traces[0] == "" {
			t.Errorf("seed %d: not the same twice", seed)
		}
	}
}

func TestArgumentsAreLeftAlone(t *testing.T) {
	x := joinedPair(t)
	long := strings.Repeat("0123456789", 100)
	b := append(make([]byte, 0, 2000), long...)
	if e := x.side[0].Send(api.Message{Stream: 1, Bytes: b}, false, 0); e != api.OK {
		t.Fatalf("Send: %d", e)
	}
	if string(b) != long || slices.ContainsFunc(b[len(b):cap(b)], func(c byte) bool { return c != 0 }) {
		t.Errorf("Send changes its argument")
	}
	spoil(b)
	parcels := x.side[0].Take()
	for _, p := range parcels {
		was := slices.Clone(p.Bytes)
		room := append(make([]byte, 0, 1000), p.Bytes...)
		x.side[1].Recv(p.Path, room, 0, 1)
		if !slices.Equal(room, was) || slices.ContainsFunc(room[len(room):cap(room)], func(c byte) bool { return c != 0 }) {
			t.Errorf("Recv changes its argument")
		}
		spoil(room)
	}
	beat := made(t, x.tags(1).mine, api.Chunk{Type: api.Beat, Value: []byte("keep this")})
	x.side[1].Recv(0, beat, 0, 1)
	spoil(beat)
	news := x.side[1].Told()
	if len(news) != 1 || string(news[0].Message.Bytes) != long {
		t.Errorf("told %v", news)
	}
	sent := x.side[1].Take()
	if last := read(t, sent[len(sent)-1].Bytes); string(last.Chunks[0].Value) != "keep this" {
		t.Errorf("the Beat's answer says %q", last.Chunks[0].Value)
	}
}

func spoil(b []byte) {
	b = b[:cap(b)]
	for i := range b {
		b[i] = 0xee
	}
}

// TestResultsShareNoMemory: what is handed out may be changed, and what comes later isn't.
func TestResultsShareNoMemory(t *testing.T) {
	x := newPair(t)
	y := newPair(t)
	for _, z := range []*pair{x, y} {
		z.trace = new(strings.Builder)
		z.open(0)
		z.settle()
		z.say(0, 0, "first")
		z.air = nil
		z.say(1, 0, text(1, 4000))
	}
	spoilAll := func(z *pair) {
		for i := range z.air {
			c := slices.Clone(z.air[i].Bytes)
			spoil(z.air[i].Bytes)
			z.air[i].Bytes = c
		}
	}
	spoilAll(x)
	for range 40 {
		for _, z := range []*pair{x, y} {
			z.tick()
			if z == x {
				spoilAll(x)
			}
			z.round()
		}
	}
	for _, m := range x.got[0][x.tags(0)] {
		spoil(m.Bytes)
	}
	for _, z := range []*pair{x, y} {
		z.say(1, 0, "second")
		z.settle()
	}
	if x.trace.String() != y.trace.String() {
		t.Errorf("what is handed out is used later")
	}
}

func TestExtremes(t *testing.T) {
	times := []int{math.MinInt64, -1 << 60, -1, 0, 1, api.MaxTime, api.MaxTime + 1, 1 << 60, math.MaxInt64}
	for _, s := range scenes {
		for _, first := range times {
			for _, second := range times {
				x := at(t, s.state)
				for _, x.now = range []int{first, second, first} {
					x.tick()
					x.open(0)
					x.send(0, message(0, "a"), false)
					x.send(1, message(0, "b"), true)
					x.round()
					x.round()
					x.tick()
					x.close(1)
					x.round()
					x.round()
				}
				x.delivered()
			}
		}
	}
}

func FuzzAnyArguments(f *testing.F) {
	f.Add([]byte("\x00\x03\x03\x03\x03\x03\x02\x05hello\x03\x03\x01\x03\x04"), 0, 1, uint64(5))
	f.Add([]byte("\x02\x01\x09\x04\x04\x05\x06\x07\x08"), 7, 0, uint64(math.MaxUint64))
	f.Add([]byte{}, -1, 8, uint64(0))
	f.Fuzz(func(t *testing.T, b []byte, me, peer int, key uint64) {
		l, e := New(me, peer, key)
		if may := me >= 0 && me < 8 && peer >= 0 && peer < 8 && me != peer; may != (e == api.OK) || may != (l != nil) {
			t.Fatalf("New(%d, %d): %d", me, peer, e)
		}
		x := newPair(t)
		if l != nil {
			x.side[0] = l
		}
		b = b[:min(len(b), 6000)] // each step may take all that follows
		r := dice(int64(len(b)))
		for i, c := range b {
			s := int(c>>3) & 1
			switch rest := b[i+1:]; c & 7 {
			case 0:
				x.open(s)
			case 1:
				x.close(s)
			case 2:
				x.send(s, api.Message{Stream: uint16(c >> 4), Bytes: rest}, c&64 != 0)
			case 3:
				if len(x.air) > 0 {
					x.recv(x.take(int(c>>3) % len(x.air)))
				}
			case 4:
				x.now += int(int8(c))
				x.tick()
			case 5:
				x.abort(s)
			case 6:
				x.side[s].Recv(int(int8(c)), rest, x.now, r.Uint32())
				x.collect(s)
			case 7:
				foreign(t, x, s, rest)
			}
		}
		x.collect(0)
	})
}

// foreign lets a side receive what no link sends, under its own tag.
func foreign(t *testing.T, x *pair, s int, b []byte) {
	chunks, e := chunk.Get(b)
	if e != api.OK {
		chunks = []api.Chunk{{Value: b}}
		if len(b) > 1 {
			chunks[0].Type, chunks[0].Flags, chunks[0].Value = b[0]%16, b[1]%8, b[2:]
		}
	}
	if p := (api.Packet{From: 1, To: 1, Tag: max(x.tags(s).mine, 1), Chunks: chunks}); len(b) < 4000 && len(chunks) == 1 && chunks[0].Type != api.Init {
		x.recv(flying{s, Parcel{0, made(t, p.Tag, p.Chunks...)}})
	}
}
