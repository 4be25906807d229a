package assoc

import (
	"encoding/hex"
	"math"
	"math/rand"
	"slices"
	"strings"
	"testing"

	"trunkline/api"
)

// The numbers of the scenes: every association in them has myTag and theirTag where it has tags.
const (
	myTag, myTSN       = 0x0a0b0c0d, 0x01020304
	theirTag, theirTSN = 0x1a1b1c1d, 0x11121314
	otherTag           = 0x2a2b2c2d
	key                = 41
)

var ruled = Rules{Key: key, Window: 9000, Life: 100, Rto: 10, Tries: 2}

// scene is a state, and a way that leads there.
type scene struct {
	name  string
	state int
	lead  func(t testing.TB, x *both)
}

func lead(steps ...func(t testing.TB, x *both)) func(t testing.TB, x *both) {
	return func(t testing.TB, x *both) {
		for _, f := range steps {
			f(t, x)
		}
	}
}

func opened(t testing.TB, x *both) { x.open(t, myTag, myTSN, 0) }

func helloed(t testing.TB, x *both) {
	x.recv(t, myTag, laidHello(api.InitAck, theirTag, 77, 8, 8, theirTSN, []byte("their cookie")), 1, 0)
}

func confirmedThere(t testing.TB, x *both) { x.recv(t, myTag, plain(api.CookieAck), 2, 0) }

// met is established by the other side, with the cookie of this one.
func met(t testing.TB, x *both) {
	x.recv(t, myTag, echo(api.Crumb{Time: 2, Mine: myTag, Peer: theirTag, MyTSN: myTSN, PeerTSN: theirTSN}), 2, 0)
}

func closing(t testing.TB, x *both) { x.close(t, 3, false) }
func shutting(t testing.TB, x *both) {
	x.close(t, 3, true)
}
func told(t testing.TB, x *both)    { x.recv(t, myTag, plain(api.Shutdown), 4, 0) }
func emptied(t testing.TB, x *both) { x.drained(t, 5) }

// scenes: every state, and some of them by several ways.
var scenes = []scene{
	{"Closed from the start", Closed, lead()},
	{"CookieWait", CookieWait, lead(opened)},
	{"CookieEchoed", CookieEchoed, lead(opened, helloed)},
	{"Established by its own Init", Established, lead(opened, helloed, confirmedThere)},
	{"Established by the other's Init", Established, lead(met)},
	{"Pending", Pending, lead(met, closing)},
	{"ShutSent", ShutSent, lead(met, shutting)},
	{"ShutSent by Drained", ShutSent, lead(met, closing, emptied)},
	{"ShutReceived", ShutReceived, lead(met, told)},
	{"ShutReceived in Pending", ShutReceived, lead(opened, helloed, confirmedThere, closing, told)},
	{"ShutAckSent by Drained", ShutAckSent, lead(met, told, emptied)},
	{"ShutAckSent by both Shutdowns", ShutAckSent, lead(met, shutting, told)},
}

// at returns an association in that scene.
func (s scene) at(t testing.TB) *both {
	t.Helper()
	return s.by(t, ruled)
}

func (s scene) by(t testing.TB, r Rules) *both {
	t.Helper()
	x := newBoth(r)
	s.lead(t, x)
	if x.a.State() != s.state {
		t.Fatalf("%s: state %d, want %d", s.name, x.a.State(), s.state)
	}
	return x
}

// in returns the scenes in one of those states.
func in(states ...int) []scene {
	var list []scene
	for _, s := range scenes {
		if slices.Contains(states, s.state) {
			list = append(list, s)
		}
	}
	return list
}

// notIn returns the other ones.
func notIn(states ...int) []scene {
	var list []scene
	for _, s := range scenes {
		if !slices.Contains(states, s.state) {
			list = append(list, s)
		}
	}
	return list
}

func plain(kind uint8) api.Chunk { return api.Chunk{Type: kind} }

// echo is a CookieEcho of a cookie under the scenes' key.
func echo(c api.Crumb) api.Chunk {
	return api.Chunk{Type: api.CookieEcho, Value: laidCookie(key, c)}
}

// is says what a call is to answer: the letters of want, and these events.
func is(t *testing.T, what string, got Out, want Out, events ...int) {
	t.Helper()
	want.Events = events
	if !sameOut(got, want) {
		t.Errorf("%s: %v, want %v", what, got, want)
	}
}

// nothing says that a call answers nothing, and changes nothing.
func nothing(t *testing.T, what string, x *both, call func(y *both) Out) {
	t.Helper()
	y := x.twin()
	is(t, what, call(y), Out{})
	if y.p != x.p {
		t.Errorf("%s: %v, and was %v", what, y.p, x.p)
	}
	y.stands(t)
}

// stood says in which state, and with which numbers, it is.
func stood(t *testing.T, what string, x *both, state int, mine, peer, first, peerFirst uint32) {
	t.Helper()
	m, p := x.a.Tags()
	f, g := x.a.Firsts()
	if s := x.a.State(); s != state || m != mine || p != peer || f != first || g != peerFirst {
		t.Errorf("%s: %d, %x, %x, %x, %x, want %d, %x, %x, %x, %x", what, s, m, p, f, g, state, mine, peer, first, peerFirst)
	}
	x.stands(t)
}

// closed says that it is as at the start, but for its Key.
func closed(t *testing.T, what string, x *both, key uint64) {
	t.Helper()
	stood(t, what, x, Closed, 0, 0, 0, 0)
	if !sealsUnder(t, x, key) {
		t.Errorf("%s: the Key isn't %d", what, key)
	}
	if o := x.twin().tick(t, 1<<60); !sameOut(o, Out{}) {
		t.Errorf("%s: an alarm is left: %v", what, o)
	}
}

// sealsUnder reports whether a Closed association seals its cookies under that Key.
func sealsUnder(t *testing.T, x *both, key uint64) bool {
	t.Helper()
	o := x.twin().recv(t, 0, laidHello(api.Init, 1, 2, 3, 4, 5, nil), 6, 7)
	h, ok := toldHello(o.Packets[0].Chunk)
	_, fits := toldCookie(key, h.Cookie)
	return ok && fits
}

// awaits says that this letter is sent again, from that time on, as often as the rules have it, and that it ends then.
func awaits(t *testing.T, what string, x *both, letter Out, from int) {
	t.Helper()
	y := x.twin()
	for try := 1; try <= ruled.Tries; try++ {
		is(t, what+", too early", y.tick(t, from+10*try-1), Out{})
		is(t, what+", late", y.tick(t, from+10*try), letter)
		is(t, what+", late, once more", y.tick(t, from+10*try), Out{})
	}
	is(t, what+", no tries left, too early", y.tick(t, from+29), Out{})
	is(t, what+", no tries left", y.tick(t, from+30), Out{}, Lost)
	closed(t, what, y, key+1)
}

// TestExampleOfBoth: the chapter's first example, letter by letter.
func TestExampleOfBoth(t *testing.T) {
	a, b := newBoth(Rules{Key: 1, Window: 0x2328, Life: 100, Rto: 10, Tries: 2}), newBoth(Rules{Key: 2, Window: 0x1770, Life: 100, Rto: 10, Tries: 2})
	o, e := a.open(t, 77, 88, 0)
	if e != api.OK {
		t.Fatalf("Open: %d", e)
	}
	is(t, "Open", o, letters(0, api.Chunk{Type: 1, Value: unhex(t, "0000004d 00002328 0008 0008 00000058")}))
	o = b.recv(t, o.Packets[0].Tag, o.Packets[0].Chunk, 5, 99)
	crumb := api.Crumb{Time: 5, Mine: 99, Peer: 77, MyTSN: 0xffffff9c, PeerTSN: 88, Window: 9000}
	sealed := hex.EncodeToString(laidCookie(2, crumb))
	is(t, "the Init", o, letters(77, api.Chunk{Type: 2, Value: unhex(t, "00000063 00001770 0008 0008 ffffff9c 0007 002c"+sealed)}))
	stood(t, "B", b, Closed, 0, 0, 0, 0)
	o = a.recv(t, o.Packets[0].Tag, o.Packets[0].Chunk, 6, 3)
	is(t, "the InitAck", o, letters(99, api.Chunk{Type: 10, Value: unhex(t, sealed)}))
	stood(t, "A", a, CookieEchoed, 77, 99, 88, 0xffffff9c)
	o = b.recv(t, o.Packets[0].Tag, o.Packets[0].Chunk, 7, 4)
	is(t, "the CookieEcho", o, letters(77, api.Chunk{Type: 11}), Up)
	stood(t, "B", b, Established, 99, 77, 0xffffff9c, 88)
	o = a.recv(t, o.Packets[0].Tag, o.Packets[0].Chunk, 8, 5)
	is(t, "the CookieAck", o, Out{}, Up)
	stood(t, "A", a, Established, 77, 99, 88, 0xffffff9c)
	if o, e := a.open(t, 5, 6, 2); e != api.ErrState || !sameOut(o, Out{}) {
		t.Errorf("Open again: %v, %d", o, e)
	}
	o, _ = a.close(t, 9, true)
	is(t, "Close", o, letters(99, api.Chunk{Type: 7}))
	is(t, "the Shutdown", b.recv(t, 99, o.Packets[0].Chunk, 10, 6), Out{})
	stood(t, "B", b, ShutReceived, 99, 77, 0xffffff9c, 88)
	o = b.drained(t, 11)
	is(t, "Drained", o, letters(77, api.Chunk{Type: 8}))
	o = a.recv(t, 77, o.Packets[0].Chunk, 12, 7)
	is(t, "the ShutdownAck", o, letters(99, api.Chunk{Type: 14}), Over)
	stood(t, "A", a, Closed, 0, 0, 0, 0)
	is(t, "the ShutdownComplete", b.recv(t, 99, o.Packets[0].Chunk, 13, 8), Out{}, Over)
	stood(t, "B", b, Closed, 0, 0, 0, 0)
}

// TestExampleOfNobody: the chapter's second example.
func TestExampleOfNobody(t *testing.T) {
	x := newBoth(ruled)
	o, _ := x.open(t, 5, 6, 0)
	for now := 1; now <= 29; now++ {
		want := Out{}
		if now == 10 || now == 20 {
			want = letters(o.Packets[0].Tag, o.Packets[0].Chunk)
		}
		is(t, "Tick", x.tick(t, now), want)
	}
	is(t, "the last Tick", x.tick(t, 30), Out{}, Lost)
	closed(t, "the end", x, key+1)
}

func unhex(t testing.TB, s string) []byte {
	t.Helper()
	b, err := hex.DecodeString(strings.ReplaceAll(s, " ", ""))
	if err != nil {
		t.Fatal(err)
	}
	return b
}

// TestNumbers: the states and events are the chapter's numbers.
func TestNumbers(t *testing.T) {
	for i, n := range []int{Closed, CookieWait, CookieEchoed, Established, Pending, ShutSent, ShutReceived, ShutAckSent} {
		if n != i {
			t.Errorf("the state %d is %d", i, n)
		}
	}
	for i, n := range []int{Up, Restart, Lost, Over} {
		if n != i+1 {
			t.Errorf("the event %d is %d", i+1, n)
		}
	}
}

func TestNewOfBounds(t *testing.T) {
	for _, x := range []struct {
		life, rto, tries int
		want             api.Errno
	}{
		{1, 1, 0, api.OK},
		{1 << 20, 1 << 20, 100, api.OK},
		{1, 1 << 20, 50, api.OK},
		{0, 10, 2, api.ErrArg},
		{-1, 10, 2, api.ErrArg},
		{1<<20 + 1, 10, 2, api.ErrArg},
		{math.MinInt, 10, 2, api.ErrArg},
		{math.MaxInt, 10, 2, api.ErrArg},
		{1<<32 + 1, 10, 2, api.ErrArg},
		{100, 0, 2, api.ErrArg},
		{100, -1, 2, api.ErrArg},
		{100, 1<<20 + 1, 2, api.ErrArg},
		{100, math.MinInt, 2, api.ErrArg},
		{100, math.MaxInt, 2, api.ErrArg},
		{100, 10, -1, api.ErrArg},
		{100, 10, 101, api.ErrArg},
		{100, 10, math.MinInt, api.ErrArg},
		{100, 10, math.MaxInt, api.ErrArg},
		{0, 0, -1, api.ErrArg},
	} {
		for _, k := range []uint64{0, 1, math.MaxUint64} {
			a, e := New(Rules{Key: k, Window: uint32(k), Life: x.life, Rto: x.rto, Tries: x.tries})
			if e != x.want || (a != nil) != (e == api.OK) || a.State() != Closed {
				t.Errorf("New with Life %d, Rto %d, Tries %d: %v, %d, want %d", x.life, x.rto, x.tries, a, e, x.want)
			}
		}
	}
}

func TestOpenOfNumbers(t *testing.T) {
	for _, x := range []struct {
		tag, tsn uint32
		now      int
		want     string
	}{
		{1, 0, 0, "00000001 00002328 0008 0008 00000000"},
		{math.MaxUint32, math.MaxUint32, -5, "ffffffff 00002328 0008 0008 ffffffff"},
		{0x01020304, 0x05060708, 1 << 60, "01020304 00002328 0008 0008 05060708"},
		{7, 7, -1 << 60, "00000007 00002328 0008 0008 00000007"},
	} {
		y := newBoth(ruled)
		o, e := y.open(t, x.tag, x.tsn, x.now)
		init := letters(0, api.Chunk{Type: api.Init, Value: unhex(t, x.want)})
		is(t, "Open", o, init)
		if e != api.OK {
			t.Errorf("Open(%d, %d, %d): %d", x.tag, x.tsn, x.now, e)
		}
		stood(t, "Open", y, CookieWait, x.tag, 0, x.tsn, 0)
		awaits(t, "Open", y, init, x.now)
	}
}

func TestOpenOfWrong(t *testing.T) {
	for _, s := range notIn(Closed) {
		for _, tag := range []uint32{0, 1, myTag, theirTag} {
			nothing(t, s.name, s.at(t), func(y *both) Out {
				o, e := y.open(t, tag, 6, 7)
				if e != api.ErrState {
					t.Errorf("%s: Open(%d) = %d", s.name, tag, e)
				}
				return o
			})
		}
	}
	nothing(t, "the tag 0", newBoth(ruled), func(y *both) Out {
		o, e := y.open(t, 0, 6, 7)
		if e != api.ErrArg {
			t.Errorf("Open(0) = %d", e)
		}
		return o
	})
}

// TestTickOfRules: how often, and how far apart, at both ends of what there may be.
func TestTickOfRules(t *testing.T) {
	for _, tries := range []int{0, 1, 2, 99, 100} {
		for _, rto := range []int{1, 10, 1<<20 - 1, 1 << 20} {
			for _, from := range []int{-1 << 59, -3, 0, 4, api.MaxTime, 1 << 59} {
				x := newBoth(Rules{Key: key, Life: 1, Rto: rto, Tries: tries})
				init, _ := x.open(t, myTag, myTSN, from)
				for try := range tries {
					is(t, "Tick too early", x.tick(t, from+rto*(try+1)-1), Out{})
					is(t, "Tick", x.tick(t, from+rto*(try+1)), init)
				}
				is(t, "the last Tick too early", x.tick(t, from+rto*(tries+1)-1), Out{})
				is(t, "the last Tick", x.tick(t, from+rto*(tries+1)), Out{}, Lost)
				closed(t, "the last Tick", x, key+1)
			}
		}
	}
}

// TestTickTooLate: a Tick that comes late sends once, and the alarm goes by it.
func TestTickTooLate(t *testing.T) {
	x := newBoth(ruled)
	init, _ := x.open(t, myTag, myTSN, 0)
	is(t, "before the start", x.tick(t, -1<<60), Out{})
	is(t, "at 1000", x.tick(t, 1000), init)
	is(t, "at 1000 once more", x.tick(t, 1000), Out{})
	is(t, "back at 999", x.tick(t, 999), Out{})
	is(t, "at 1009", x.tick(t, 1009), Out{})
	is(t, "at 1011", x.tick(t, 1011), init)
	is(t, "at 1020", x.tick(t, 1020), Out{})
	is(t, "at 1 << 60", x.tick(t, 1<<60), Out{}, Lost)
	closed(t, "the end", x, key+1)
}

// TestTickOfEveryState: which letter is awaited in which state, and that nothing is in the others.
func TestTickOfEveryState(t *testing.T) {
	init := letters(0, laidHello(api.Init, myTag, 9000, 8, 8, myTSN, nil))
	awaited := map[string]struct {
		letter Out
		from   int
	}{
		"CookieWait":                    {init, 0},
		"CookieEchoed":                  {letters(theirTag, api.Chunk{Type: api.CookieEcho, Value: []byte("their cookie")}), 1},
		"ShutSent":                      {letters(theirTag, plain(api.Shutdown)), 3},
		"ShutSent by Drained":           {letters(theirTag, plain(api.Shutdown)), 5},
		"ShutAckSent by Drained":        {letters(theirTag, plain(api.ShutdownAck)), 5},
		"ShutAckSent by both Shutdowns": {letters(theirTag, plain(api.ShutdownAck)), 4},
	}
	for _, s := range scenes {
		x := s.at(t)
		if w := awaited[s.name]; w.letter.Packets != nil {
			awaits(t, s.name, x, w.letter, w.from)
			continue
		}
		for _, now := range []int{-1 << 60, 0, 14, 1 << 60} {
			nothing(t, s.name, x, func(y *both) Out { return y.tick(t, now) })
		}
	}
}

// TestTriesBeginAnew: each letter that is awaited has all tries, and its alarm goes by its own time.
func TestTriesBeginAnew(t *testing.T) {
	x := newBoth(ruled)
	opened(t, x)
	x.tick(t, 10)
	x.tick(t, 20)
	echoed := x.recv(t, myTag, laidHello(api.InitAck, theirTag, 77, 8, 8, theirTSN, []byte("c")), 29, 0)
	awaits(t, "the CookieEcho", x, echoed, 29)
	x.tick(t, 39)
	x.tick(t, 49)
	init := x.recv(t, myTag, api.Chunk{Type: api.Error, Value: staleValue}, 58, 0)
	awaits(t, "the second Init", x, init, 58)
	x.tick(t, 68)
	x.recv(t, myTag, laidHello(api.InitAck, theirTag, 77, 8, 8, theirTSN, []byte("c")), 70, 0)
	x.recv(t, myTag, plain(api.CookieAck), 71, 0)
	shutdown, _ := x.close(t, 90, true)
	awaits(t, "the Shutdown", x, shutdown, 90)
	x.tick(t, 100)
	ack := x.recv(t, myTag, plain(api.Shutdown), 101, 0)
	awaits(t, "the ShutdownAck", x, ack, 101)
}

// TestLetterAgainLeavesTheAlarm: a letter that is sent because an Init or a cookie came costs no try, and puts nothing off.
func TestLetterAgainLeavesTheAlarm(t *testing.T) {
	ack := letters(theirTag, plain(api.ShutdownAck))
	for _, s := range in(ShutAckSent) {
		x := s.at(t)
		from := *x.p.alarm - ruled.Rto
		for now := 5; now < 12; now++ {
			is(t, s.name, x.recv(t, 0, laidHello(api.Init, otherTag, 1, 1, 1, 1, nil), now, 3), ack)
			is(t, s.name, x.recv(t, otherTag, echo(api.Crumb{Time: 2, Mine: otherTag, Peer: 1}), now, 3), ack)
		}
		awaits(t, s.name, x, ack, from)
	}
}

// TestInitOfEveryState: whose numbers the InitAck has, and which ties its cookie.
func TestInitOfEveryState(t *testing.T) {
	for _, s := range scenes {
		tag, tsn, ties := uint32(0x51525354), uint32(0xaeadacab), [2]uint32{myTag, theirTag}
		switch s.state {
		case Closed:
			ties = [2]uint32{0, 0}
		case CookieWait:
			tag, tsn, ties = myTag, myTSN, [2]uint32{0, 0}
		case CookieEchoed:
			tag, tsn = myTag, myTSN
		}
		for _, from := range []uint32{1, myTag, theirTag, otherTag, math.MaxUint32} {
			crumb := api.Crumb{Time: 31, Mine: tag, Peer: from, MyTSN: tsn, PeerTSN: 0x61626364, Window: 0x71727374, TieMine: ties[0], TiePeer: ties[1]}
			want := letters(from, laidHello(api.InitAck, tag, 9000, 8, 8, tsn, laidCookie(key, crumb)))
			if s.state == ShutAckSent {
				want = letters(theirTag, plain(api.ShutdownAck))
			}
			x := s.at(t)
			before := x.p
			is(t, s.name, x.recv(t, 0, laidHello(api.Init, from, 0x71727374, 1, 65535, 0x61626364, nil), 31, 0x51525354), want)
			if x.p != before {
				t.Errorf("%s: an Init changes %v to %v", s.name, before, x.p)
			}
			x.stands(t)
		}
	}
}

// TestDraws: fresh numbers at both ends.
func TestDraws(t *testing.T) {
	for _, x := range []struct{ draw, tag, tsn uint32 }{
		{0, 1, 0xffffffff},
		{1, 1, 0xfffffffe},
		{2, 2, 0xfffffffd},
		{0x80000000, 0x80000000, 0x7fffffff},
		{0xffffffff, 0xffffffff, 0},
	} {
		for _, s := range in(Closed, Established, Pending, ShutSent, ShutReceived) {
			o := s.at(t).recv(t, 0, laidHello(api.Init, 9, 8, 7, 6, 5, nil), 31, x.draw)
			h, ok := toldHello(o.Packets[0].Chunk)
			c, sealed := toldCookie(key, h.Cookie)
			if !ok || !sealed || h.Tag != x.tag || h.TSN != x.tsn || c.Mine != x.tag || c.MyTSN != x.tsn {
				t.Errorf("%s: the draw %d: %v, %v", s.name, x.draw, h, c)
			}
		}
	}
}

// TestInitAtTimes: no cookie can tell of a time outside 0 to MaxTime, so there is no InitAck; a letter is sent again at any time.
func TestInitAtTimes(t *testing.T) {
	hello := laidHello(api.Init, otherTag, 1, 2, 3, 4, nil)
	for _, s := range scenes {
		x := s.at(t)
		for now, answered := range map[int]bool{-1 << 60: false, -1: false, 0: true, 1: true, api.MaxTime - 1: true, api.MaxTime: true, api.MaxTime + 1: false, 1 << 60: false, math.MinInt: false, math.MaxInt: false} {
			o := x.recv(t, 0, hello, now, 6)
			if s.state == ShutAckSent {
				is(t, s.name, o, letters(theirTag, plain(api.ShutdownAck)))
				continue
			}
			if (len(o.Packets) == 1) != answered {
				t.Errorf("%s: an Init at %d: %v", s.name, now, o)
			}
			if !answered {
				continue
			}
			h, _ := toldHello(o.Packets[0].Chunk)
			if c, ok := toldCookie(key, h.Cookie); !ok || c.Time != now {
				t.Errorf("%s: a cookie at %d: %v, %v", s.name, now, c, ok)
			}
		}
	}
}

// wrongHellos: no such chunk says a Hello.
func wrongHellos(kind uint8) []api.Chunk {
	right := laidHello(kind, 9, 8, 7, 6, 5, nil)
	flagged, short, long := right, right, right
	flagged.Flags = 1
	short.Value = right.Value[:len(right.Value)-1]
	long.Value = append(slices.Clone(right.Value), 0)
	return []api.Chunk{
		flagged, short, long, {Type: kind}, {Type: kind, Value: []byte{1}},
		laidHello(kind, 0, 8, 7, 6, 5, nil),
		laidHello(kind, 9, 8, 0, 6, 5, nil),
		laidHello(kind, 9, 8, 7, 0, 5, nil),
		{Type: kind, Value: laidHello(api.Init+api.InitAck-kind, 9, 8, 7, 6, 5, nil).Value},
	}
}

func TestInitOfWrong(t *testing.T) {
	for _, s := range scenes {
		x := s.at(t)
		for _, tag := range []uint32{1, 9, myTag, theirTag, otherTag, math.MaxUint32} {
			nothing(t, s.name, x, func(y *both) Out { return y.recv(t, tag, laidHello(api.Init, 9, 8, 7, 6, 5, nil), 31, 3) })
		}
		for _, c := range wrongHellos(api.Init) {
			nothing(t, s.name, x, func(y *both) Out { return y.recv(t, 0, c, 31, 3) })
		}
	}
}

func TestInitAck(t *testing.T) {
	for _, n := range []int{0, 1, 2, 3, 4, 40, 255, 256} {
		for _, tag := range []uint32{1, myTag, theirTag, math.MaxUint32} {
			cookie := []byte(strings.Repeat("c", n))
			x := in(CookieWait)[0].at(t)
			echoes := letters(tag, api.Chunk{Type: api.CookieEcho, Value: cookie})
			is(t, "the InitAck", x.recv(t, myTag, laidHello(api.InitAck, tag, 1, 2, 3, 4, cookie), 7, 8), echoes)
			stood(t, "the InitAck", x, CookieEchoed, myTag, tag, myTSN, 4)
			awaits(t, "the InitAck", x, echoes, 7)
		}
	}
}

func TestInitAckOfWrong(t *testing.T) {
	for _, s := range notIn(CookieWait) {
		x := s.at(t)
		for _, tag := range []uint32{0, myTag, theirTag} {
			nothing(t, s.name, x, func(y *both) Out {
				return y.recv(t, tag, laidHello(api.InitAck, 9, 8, 7, 6, 5, []byte("cookie")), 31, 3)
			})
		}
	}
	x := in(CookieWait)[0].at(t)
	for _, tag := range []uint32{0, 1, theirTag, myTag + 1, myTag ^ 1<<31} {
		nothing(t, "another tag", x, func(y *both) Out {
			return y.recv(t, tag, laidHello(api.InitAck, 9, 8, 7, 6, 5, []byte("cookie")), 31, 3)
		})
	}
	wrong := append(wrongHellos(api.InitAck), laidHello(api.InitAck, 9, 8, 7, 6, 5, make([]byte, 257)))
	for _, c := range wrong {
		nothing(t, "no Hello", x, func(y *both) Out { return y.recv(t, myTag, c, 31, 3) })
	}
}

// TestCookieInClosed: a cookie is enough, whoever it was made for.
func TestCookieInClosed(t *testing.T) {
	for _, c := range []api.Crumb{
		{Time: 20, Mine: 7, Peer: 8, MyTSN: 9, PeerTSN: 10, Window: 11},
		{Time: 20, Mine: 8, Peer: 8},
		{Time: 0, Mine: 1, Peer: 1, TieMine: 5, TiePeer: 6},
		{Time: 100, Mine: math.MaxUint32, Peer: math.MaxUint32, MyTSN: math.MaxUint32, PeerTSN: math.MaxUint32, TieMine: math.MaxUint32, TiePeer: math.MaxUint32},
	} {
		x := newBoth(ruled)
		is(t, "the cookie", x.recv(t, c.Mine, echo(c), 100, 3), letters(c.Peer, plain(api.CookieAck)), Up)
		stood(t, "the cookie", x, Established, c.Mine, c.Peer, c.MyTSN, c.PeerTSN)
		is(t, "an alarm", x.tick(t, 1<<60), Out{})
	}
}

// TestCookieOfLife: Fresh to the last; an old one, and one from the future, are told of, in every state, and nothing else.
func TestCookieOfLife(t *testing.T) {
	for _, life := range []int{1, 100, 1 << 20} {
		for _, made := range []int{0, 50, api.MaxTime} {
			rules := ruled
			rules.Life = life
			for now, fresh := range map[int]bool{made: true, made + 1: true, made + life: true, made - 1: false, made + life + 1: false, -1 << 60: false, 1 << 60: false, math.MinInt: false, math.MaxInt: false} {
				for _, s := range scenes {
					x := s.by(t, rules)
					c := echo(api.Crumb{Time: made, Mine: myTag, Peer: otherTag, MyTSN: 5, PeerTSN: 6})
					if !fresh {
						before := x.p
						is(t, s.name, x.recv(t, myTag, c, now, 3), letters(otherTag, api.Chunk{Type: 9, Value: []byte{0, 3, 0, 4}}))
						if x.p != before {
							t.Errorf("%s: a cookie that isn't Fresh changes it", s.name)
						}
						continue
					}
					want, event := letters(otherTag, plain(api.CookieAck)), []int{Restart}
					if s.state <= CookieEchoed {
						event = []int{Up}
					}
					if s.state == ShutAckSent {
						want, event = letters(theirTag, plain(api.ShutdownAck)), nil
					}
					is(t, s.name, x.recv(t, myTag, c, now, 3), want, event...)
				}
			}
		}
	}
}

// TestCookieOfWrong: no cookie, or not under this Key, or in a packet for another one: not even an Error is sent.
func TestCookieOfWrong(t *testing.T) {
	c := api.Crumb{Time: 20, Mine: myTag, Peer: theirTag, MyTSN: 5, PeerTSN: 6, TieMine: myTag, TiePeer: theirTag}
	right := laidCookie(key, c)
	values := [][]byte{nil, {}, {1}, right[:39], append(slices.Clone(right), 0), laidCookie(key+1, c), laidCookie(key-1, c), laidCookie(0, c), make([]byte, 40), staleValue}
	for at := range right {
		b := slices.Clone(right)
		b[at] ^= 16
		values = append(values, b)
	}
	for _, bad := range []api.Crumb{{Time: -1, Mine: myTag, Peer: 3}, {Time: api.MaxTime + 1, Mine: myTag, Peer: 3}, {Time: 20, Peer: 3}, {Time: 20, Mine: myTag}} {
		values = append(values, laidCookie(key, bad))
	}
	for _, s := range scenes {
		x := s.at(t)
		for _, now := range []int{20, 500} {
			for _, v := range values {
				nothing(t, s.name, x, func(y *both) Out { return y.recv(t, myTag, api.Chunk{Type: api.CookieEcho, Value: v}, now, 3) })
			}
			for _, tag := range []uint32{0, theirTag, otherTag, myTag + 1} {
				nothing(t, s.name, x, func(y *both) Out { return y.recv(t, tag, echo(c), now, 3) })
			}
		}
	}
}

// The three that may come of a cookie beside an association, and nothing.
const (
	anew  = Restart
	up    = Up
	acked = 10
	none  = 0
)

// TestCookieBeside: both tags the same or not, and the ties that there may be.
func TestCookieBeside(t *testing.T) {
	for _, x := range []struct {
		mine, peer, tieMine, tiePeer uint32
		wait, echoed, later          int
	}{
		{otherTag, otherTag, myTag, theirTag, none, anew, anew},
		{theirTag, myTag, myTag, theirTag, none, anew, anew},
		{otherTag, otherTag, 0, 0, none, none, none},
		{otherTag, otherTag, myTag, 0, none, none, none},
		{otherTag, otherTag, 0, theirTag, none, none, none},
		{otherTag, otherTag, theirTag, myTag, none, none, none},
		{otherTag, otherTag, myTag, theirTag + 1, none, none, none},
		{otherTag, otherTag, myTag + 1, theirTag, none, none, none},
		{otherTag, otherTag, otherTag, otherTag, none, none, none},
		{myTag, otherTag, 0, 0, up, up, anew},
		{myTag, otherTag, myTag, theirTag, up, up, anew},
		{myTag, otherTag, 3, 4, up, up, anew},
		{myTag, myTag, 0, 0, up, up, anew},
		{myTag, theirTag, 0, 0, up, up, acked},
		{myTag, theirTag, myTag, theirTag, up, up, acked},
		{myTag, theirTag, 3, 4, up, up, acked},
		{otherTag, theirTag, 0, 0, none, none, none},
		{otherTag, theirTag, myTag, theirTag, none, none, none},
		{theirTag, theirTag, myTag, theirTag, none, none, none},
	} {
		for _, s := range notIn(Closed, ShutAckSent) {
			want := x.later
			switch s.state {
			case CookieWait:
				want = x.wait
			case CookieEchoed:
				want = x.echoed
			}
			y := s.at(t)
			c := echo(api.Crumb{Time: 20, Mine: x.mine, Peer: x.peer, MyTSN: 0x333, PeerTSN: 0x444, TieMine: x.tieMine, TiePeer: x.tiePeer})
			ack := letters(x.peer, plain(api.CookieAck))
			switch want {
			case none:
				nothing(t, s.name, y, func(y *both) Out { return y.recv(t, x.mine, c, 20, 3) })
			case acked:
				before := y.p
				is(t, s.name, y.recv(t, x.mine, c, 20, 3), ack)
				if y.p != before {
					t.Errorf("%s: a cookie that was accepted before changes %v to %v", s.name, before, y.p)
				}
			default:
				is(t, s.name, y.recv(t, x.mine, c, 20, 3), ack, want)
				stood(t, s.name, y, Established, x.mine, x.peer, 0x333, 0x444)
				is(t, s.name, y.tick(t, 1<<60), Out{})
			}
		}
	}
}

// marks: Flags and Values that the chunks which have none may come with.
func marks(kind uint8) []api.Chunk {
	var list []api.Chunk
	for _, flags := range []uint8{0, 1, 2, 3, 254, 255} {
		for _, value := range [][]byte{nil, {}, {0}, staleValue, make([]byte, 300)} {
			list = append(list, api.Chunk{Type: kind, Flags: flags, Value: value})
		}
	}
	return list
}

// tags: those that a packet may come with.
var tags = []uint32{0, 1, myTag, theirTag, otherTag, math.MaxUint32}

func TestCookieAck(t *testing.T) {
	for _, s := range scenes {
		for _, tag := range tags {
			for _, c := range marks(api.CookieAck) {
				x := s.at(t)
				if s.state != CookieEchoed || tag != myTag {
					nothing(t, s.name, x, func(y *both) Out { return y.recv(t, tag, c, 6, 3) })
					continue
				}
				is(t, s.name, x.recv(t, tag, c, 6, 3), Out{}, Up)
				stood(t, s.name, x, Established, myTag, theirTag, myTSN, theirTSN)
				is(t, s.name, x.tick(t, 1<<60), Out{})
			}
		}
	}
}

func TestError(t *testing.T) {
	init := letters(0, laidHello(api.Init, myTag, 9000, 8, 8, myTSN, nil))
	list := append(marks(api.Error), api.Chunk{Type: api.Error, Value: []byte{0, 3, 0, 5}}, api.Chunk{Type: api.Error, Value: []byte{0, 3, 0, 4, 0}}, api.Chunk{Type: api.Error, Value: []byte{0, 3, 0}})
	for _, s := range scenes {
		for _, tag := range tags {
			for _, c := range list {
				x := s.at(t)
				if s.state != CookieEchoed || tag != myTag || string(c.Value) != string(staleValue) {
					nothing(t, s.name, x, func(y *both) Out { return y.recv(t, tag, c, 6, 3) })
					continue
				}
				is(t, s.name, x.recv(t, tag, c, 6, 3), init)
				stood(t, s.name, x, CookieWait, myTag, 0, myTSN, 0)
				awaits(t, s.name, x, init, 6)
			}
		}
	}
}

func TestAbortThatCame(t *testing.T) {
	for _, s := range scenes {
		for _, tag := range tags {
			for _, c := range marks(api.Abort) {
				x := s.at(t)
				mirrored := c.Flags == 1 && tag == theirTag && s.state != CookieWait
				if s.state == Closed || tag != myTag && !mirrored {
					nothing(t, s.name, x, func(y *both) Out { return y.recv(t, tag, c, 6, 3) })
					continue
				}
				is(t, s.name, x.recv(t, tag, c, 6, 3), Out{}, Lost)
				closed(t, s.name, x, key+1)
			}
		}
	}
}

func TestShutdown(t *testing.T) {
	ack := letters(theirTag, plain(api.ShutdownAck))
	for _, s := range scenes {
		for _, tag := range tags {
			for _, c := range marks(api.Shutdown) {
				x := s.at(t)
				switch {
				case tag == myTag && (s.state == Established || s.state == Pending):
					is(t, s.name, x.recv(t, tag, c, 6, 3), Out{})
					stood(t, s.name, x, ShutReceived, myTag, theirTag, myTSN, theirTSN)
					is(t, s.name, x.tick(t, 1<<60), Out{})
				case tag == myTag && s.state == ShutSent:
					is(t, s.name, x.recv(t, tag, c, 6, 3), ack)
					stood(t, s.name, x, ShutAckSent, myTag, theirTag, myTSN, theirTSN)
					awaits(t, s.name, x, ack, 6)
				default:
					nothing(t, s.name, x, func(y *both) Out { return y.recv(t, tag, c, 6, 3) })
				}
			}
		}
	}
}

func TestShutdownAck(t *testing.T) {
	for _, s := range scenes {
		for _, tag := range tags {
			for _, c := range marks(api.ShutdownAck) {
				x := s.at(t)
				switch {
				case s.state == Closed:
					is(t, s.name, x.recv(t, tag, c, 6, 3), letters(tag, api.Chunk{Type: 14, Flags: 1}))
					closed(t, s.name, x, key)
				case tag == myTag && (s.state == ShutSent || s.state == ShutAckSent):
					is(t, s.name, x.recv(t, tag, c, 6, 3), letters(theirTag, api.Chunk{Type: 14}), Over)
					closed(t, s.name, x, key+1)
				default:
					nothing(t, s.name, x, func(y *both) Out { return y.recv(t, tag, c, 6, 3) })
				}
			}
		}
	}
}

func TestShutdownComplete(t *testing.T) {
	for _, s := range scenes {
		for _, tag := range tags {
			for _, c := range marks(api.ShutdownComplete) {
				x := s.at(t)
				if s.state != ShutAckSent || tag != myTag && (c.Flags != 1 || tag != theirTag) {
					nothing(t, s.name, x, func(y *both) Out { return y.recv(t, tag, c, 6, 3) })
					continue
				}
				is(t, s.name, x.recv(t, tag, c, 6, 3), Out{}, Over)
				closed(t, s.name, x, key+1)
			}
		}
	}
}

// TestOtherTypes: what no association knows changes nothing.
func TestOtherTypes(t *testing.T) {
	known := []int{api.Init, api.InitAck, api.Abort, api.Shutdown, api.ShutdownAck, api.Error, api.CookieEcho, api.CookieAck, api.ShutdownComplete}
	cookie := laidCookie(key, api.Crumb{Time: 2, Mine: myTag, Peer: theirTag, TieMine: myTag, TiePeer: theirTag})
	for _, s := range scenes {
		x := s.at(t)
		for kind := range 256 {
			for _, tag := range []uint32{0, myTag, theirTag} {
				for _, v := range [][]byte{nil, staleValue, cookie, laidHello(api.Init, 9, 8, 7, 6, 5, nil).Value} {
					if !slices.Contains(known, kind) {
						nothing(t, s.name, x, func(y *both) Out {
							return y.recv(t, tag, api.Chunk{Type: uint8(kind), Flags: 1, Value: v}, 6, 3)
						})
					}
				}
			}
		}
	}
}

func TestClose(t *testing.T) {
	for _, s := range scenes {
		for _, drained := range []bool{false, true} {
			x := s.at(t)
			switch {
			case s.state != Established:
				nothing(t, s.name, x, func(y *both) Out {
					o, e := y.close(t, 6, drained)
					if e != api.ErrState {
						t.Errorf("%s: Close = %d", s.name, e)
					}
					return o
				})
			case drained:
				o, e := x.close(t, 6, true)
				is(t, s.name, o, letters(theirTag, plain(api.Shutdown)))
				stood(t, s.name, x, ShutSent, myTag, theirTag, myTSN, theirTSN)
				awaits(t, s.name, x, o, 6)
				if e != api.OK {
					t.Errorf("%s: Close = %d", s.name, e)
				}
			default:
				o, e := x.close(t, 6, false)
				is(t, s.name, o, Out{})
				stood(t, s.name, x, Pending, myTag, theirTag, myTSN, theirTSN)
				is(t, s.name, x.tick(t, 1<<60), Out{})
				if e != api.OK {
					t.Errorf("%s: Close = %d", s.name, e)
				}
			}
		}
	}
}

func TestDrained(t *testing.T) {
	for _, s := range scenes {
		x := s.at(t)
		want, next := plain(api.Shutdown), ShutSent
		switch s.state {
		case Pending:
		case ShutReceived:
			want, next = plain(api.ShutdownAck), ShutAckSent
		default:
			nothing(t, s.name, x, func(y *both) Out { return y.drained(t, 6) })
			continue
		}
		is(t, s.name, x.drained(t, 6), letters(theirTag, want))
		stood(t, s.name, x, next, myTag, theirTag, myTSN, theirTSN)
		awaits(t, s.name, x, letters(theirTag, want), 6)
	}
}

func TestAbort(t *testing.T) {
	for _, s := range scenes {
		x := s.at(t)
		switch s.state {
		case Closed:
			nothing(t, s.name, x, func(y *both) Out { return y.abort(t) })
			continue
		case CookieWait:
			is(t, s.name, x.abort(t), Out{})
		default:
			is(t, s.name, x.abort(t), letters(theirTag, api.Chunk{Type: 6}))
		}
		closed(t, s.name, x, key+1)
		nothing(t, s.name, x, func(y *both) Out { return y.abort(t) })
	}
}

// TestKey: it is another one behind each end, and comes round behind the greatest; a cookie from before an end opens nothing.
func TestKey(t *testing.T) {
	for _, k := range []uint64{0, math.MaxUint64 - 1, math.MaxUint64} {
		rules := ruled
		rules.Key = k
		x := newBoth(rules)
		o := x.recv(t, 0, laidHello(api.Init, theirTag, 8, 7, 6, 5, nil), 1, myTag)
		h, _ := toldHello(o.Packets[0].Chunk)
		cookie := api.Chunk{Type: api.CookieEcho, Value: h.Cookie}
		x.open(t, 3, 4, 1)
		x.abort(t)
		closed(t, "an end", x, k+1)
		nothing(t, "a cookie from before", x, func(y *both) Out { return y.recv(t, myTag, cookie, 2, 9) })
		x.open(t, 3, 4, 1)
		x.recv(t, 3, plain(api.Abort), 1, 4)
		closed(t, "two ends", x, k+2)
	}
}

// TestKeyStaysWithoutEnd: neither a Restart nor a stale cookie is an end.
func TestKeyStaysWithoutEnd(t *testing.T) {
	x := newBoth(ruled)
	met(t, x)
	x.recv(t, otherTag, echo(api.Crumb{Time: 2, Mine: otherTag, Peer: 9, TieMine: myTag, TiePeer: theirTag}), 3, 4)
	x.recv(t, 8, echo(api.Crumb{Time: 2, Mine: 8, Peer: 9}), 1000, 4)
	x.abort(t)
	closed(t, "a Restart", x, key+1)
	y := newBoth(ruled)
	lead(opened, helloed)(t, y)
	y.recv(t, myTag, api.Chunk{Type: api.Error, Value: staleValue}, 3, 4)
	y.abort(t)
	closed(t, "an Error", y, key+1)
}

// parcel is a letter on its way to one of two sides.
type parcel struct {
	to     int
	letter Letter
}

// wire carries letters between two sides, and notes their events.
type wire struct {
	sides  [2]*both
	way    []parcel
	events [2][]int
	draw   uint32
}

func newWire(t testing.TB) *wire {
	t.Helper()
	second := ruled
	second.Key = 1 << 40
	return &wire{sides: [2]*both{newBoth(ruled), newBoth(second)}, draw: 1000}
}

func (w *wire) put(from int, o Out) {
	for _, l := range o.Packets {
		w.way = append(w.way, parcel{1 - from, l})
	}
	w.events[from] = append(w.events[from], o.Events...)
}

// take delivers a letter; it stays on its way if it is one that comes twice.
func (w *wire) take(t testing.TB, at, now int, twice bool) {
	t.Helper()
	p := w.way[at]
	if !twice {
		w.way = slices.Delete(w.way, at, at+1)
	}
	w.draw += 4096
	w.put(p.to, w.sides[p.to].recv(t, p.letter.Tag, p.letter.Chunk, now, w.draw))
}

// run delivers all letters, the first ones first.
func (w *wire) run(t testing.TB, now int) {
	t.Helper()
	for count := 0; len(w.way) > 0; count++ {
		if count == 1000 {
			t.Fatalf("the letters come to no end: %v", w.way)
		}
		w.take(t, 0, now, false)
	}
}

// joined says that both sides are Established, and know each other.
func (w *wire) joined(t testing.TB, what string) {
	t.Helper()
	a, b := &w.sides[0].a, &w.sides[1].a
	m, p := a.Tags()
	n, q := b.Tags()
	f, g := a.Firsts()
	h, i := b.Firsts()
	if a.State() != Established || b.State() != Established || m != q || p != n || f != i || g != h || m == 0 || n == 0 {
		t.Errorf("%s: states %d, %d, tags %d %d, %d %d, firsts %d %d, %d %d", what, a.State(), b.State(), m, p, n, q, f, g, h, i)
	}
}

// TestBothOpenAtOnce: in whatever order the letters come, there is one association.
func TestBothOpenAtOnce(t *testing.T) {
	for seed := range int64(500) {
		r := rand.New(rand.NewSource(seed))
		w := newWire(t)
		for from, tag := range []uint32{77, 99} {
			o, _ := w.sides[from].open(t, tag, tag*10, 0)
			w.put(from, o)
		}
		for len(w.way) > 0 {
			w.take(t, r.Intn(len(w.way)), 1, false)
		}
		w.joined(t, "both open")
		m, p := w.sides[0].a.Tags()
		f, g := w.sides[0].a.Firsts()
		if m != 77 || p != 99 || f != 770 || g != 990 {
			t.Errorf("the numbers %d, %d, %d, %d", m, p, f, g)
		}
		for side, events := range w.events {
			if !slices.Equal(events, []int{Up}) {
				t.Errorf("seed %d: the events %v of side %d", seed, events, side)
			}
		}
	}
}

// TestOneBeginsAnew: a side that forgot everything opens while the other one knows it still.
func TestOneBeginsAnew(t *testing.T) {
	for _, s := range notIn(ShutAckSent) {
		w := newWire(t)
		w.sides[1] = s.at(t)
		o, _ := w.sides[0].open(t, 55, 66, 6)
		w.put(0, o)
		w.run(t, 7)
		w.joined(t, s.name)
		event := Restart
		if s.state <= CookieEchoed {
			event = Up
		}
		if !slices.Equal(w.events[0], []int{Up}) || !slices.Equal(w.events[1], []int{event}) {
			t.Errorf("%s: the events %v", s.name, w.events)
		}
	}
}

// TestOneBeginsAnewTooEarly: one that waits for the last letter of a closing sends its own once more, until that is over.
func TestOneBeginsAnewTooEarly(t *testing.T) {
	for _, s := range in(ShutAckSent) {
		w := newWire(t)
		w.sides[1] = s.at(t)
		o, _ := w.sides[0].open(t, theirTag, 66, 6)
		w.put(0, o)
		w.run(t, 7)
		if a, b := w.sides[0].a.State(), w.sides[1].a.State(); a != CookieWait || b != ShutAckSent {
			t.Errorf("%s: the states %d, %d", s.name, a, b)
		}
		w.put(1, w.sides[1].recv(t, myTag, plain(api.ShutdownComplete), 8, 9))
		w.put(0, w.sides[0].tick(t, 16))
		w.run(t, 17)
		w.joined(t, s.name)
	}
}

// TestBothCloseAtOnce: both Shutdowns cross, and it is Over for both.
func TestBothCloseAtOnce(t *testing.T) {
	for seed := range int64(100) {
		r := rand.New(rand.NewSource(seed))
		w := newWire(t)
		o, _ := w.sides[0].open(t, 77, 88, 0)
		w.put(0, o)
		w.run(t, 1)
		for side := range w.sides {
			o, _ := w.sides[side].close(t, 2, true)
			w.put(side, o)
		}
		for len(w.way) > 0 {
			w.take(t, r.Intn(len(w.way)), 3, false)
		}
		for side, events := range w.events {
			if !slices.Equal(events, []int{Up, Over}) || w.sides[side].a.State() != Closed {
				t.Errorf("seed %d: side %d: %v, state %d", seed, side, events, w.sides[side].a.State())
			}
		}
	}
}

// TestLastLetterLost: a side that is Closed already answers the ShutdownAck that comes again, with a Tag which the other one takes.
func TestLastLetterLost(t *testing.T) {
	w := newWire(t)
	o, _ := w.sides[0].open(t, 77, 88, 0)
	w.put(0, o)
	w.run(t, 1)
	o, _ = w.sides[0].close(t, 2, true)
	w.put(0, o)
	w.run(t, 3)
	w.put(1, w.sides[1].drained(t, 4))
	w.take(t, 0, 5, false)
	w.way = nil
	is(t, "too early", w.sides[1].tick(t, 13), Out{})
	w.put(1, w.sides[1].tick(t, 14))
	w.run(t, 15)
	for side, events := range w.events {
		if !slices.Equal(events, []int{Up, Over}) || w.sides[side].a.State() != Closed {
			t.Errorf("side %d: %v, state %d", side, events, w.sides[side].a.State())
		}
	}
}

// TestStaleCookieIsTriedAgain: a cookie that was on its way for too long leads to another one.
func TestStaleCookieIsTriedAgain(t *testing.T) {
	w := newWire(t)
	o, _ := w.sides[0].open(t, 77, 88, 0)
	w.put(0, o)
	w.take(t, 0, 1, false)
	w.take(t, 0, 2, false)
	w.take(t, 0, 102, false)
	if l := w.way[0].letter; l.Chunk.Type != api.Error || l.Tag != 77 {
		t.Fatalf("a stale cookie: %v", w.way)
	}
	w.run(t, 103)
	w.joined(t, "the second cookie")
}

// TestLossyWay: letters are lost, come twice or in another order, and sides open, close and abort as they like; each call is held against the plain one's, and when that is over, a new association is found.
func TestLossyWay(t *testing.T) {
	for seed := range int64(300) {
		r := rand.New(rand.NewSource(seed))
		w := newWire(t)
		now := 0
		for range 400 {
			now += r.Intn(4)
			side := r.Intn(2)
			x := w.sides[side]
			switch r.Intn(12) {
			case 0:
				o, _ := x.open(t, uint32(r.Intn(4))*r.Uint32(), r.Uint32(), now)
				w.put(side, o)
			case 1:
				o, _ := x.close(t, now, r.Intn(2) == 0)
				w.put(side, o)
			case 2:
				w.put(side, x.drained(t, now))
			case 3:
				if r.Intn(8) == 0 {
					w.put(side, x.abort(t))
				}
			case 4, 5:
				w.put(side, x.tick(t, now))
			default:
				if n := len(w.way); n > 0 && r.Intn(5) > 0 {
					w.take(t, r.Intn(n), now, n < 20 && r.Intn(4) == 0)
				} else if n > 0 {
					w.way = w.way[1:]
				}
			}
			x.stands(t)
		}
		w.way = nil
		for _, x := range w.sides {
			x.abort(t)
		}
		o, _ := w.sides[0].open(t, 77, 88, now)
		w.put(0, o)
		w.run(t, now+1)
		w.joined(t, "the end")
	}
}

// chunks: all that may come, in the scenes' numbers.
func chunks() []api.Chunk {
	list := slices.Concat(wrongHellos(api.Init), wrongHellos(api.InitAck))
	for _, tag := range []uint32{1, myTag, theirTag, otherTag} {
		list = append(list, laidHello(api.Init, tag, 8, 7, 6, 5, nil), laidHello(api.InitAck, tag, 8, 7, 6, 5, []byte("cookie")))
	}
	some := []uint32{0, myTag, theirTag, otherTag}
	for _, mine := range some[1:] {
		for _, peer := range some[1:] {
			for _, tieMine := range some {
				for _, tiePeer := range some {
					list = append(list, echo(api.Crumb{Time: 30, Mine: mine, Peer: peer, MyTSN: 3, PeerTSN: 4, TieMine: tieMine, TiePeer: tiePeer}))
				}
			}
		}
	}
	for kind := range 16 {
		list = append(list, api.Chunk{Type: uint8(kind)}, api.Chunk{Type: uint8(kind), Flags: 1}, api.Chunk{Type: uint8(kind), Flags: 3, Value: staleValue})
	}
	return list
}

// TestEveryChunkInEveryState: with every tag, and at times that are no times of a cookie.
func TestEveryChunkInEveryState(t *testing.T) {
	all := chunks()
	for _, s := range scenes {
		x := s.at(t)
		for _, c := range all {
			for _, tag := range tags {
				for _, now := range []int{-1, 29, 30, 130, 131, api.MaxTime + 1} {
					y := x.twin()
					y.recv(t, tag, c, now, 0x51525354)
					y.stands(t)
				}
			}
		}
	}
}

// TestArgumentsAreLeftAlone: neither a Value nor what is behind it is written to, or kept.
func TestArgumentsAreLeftAlone(t *testing.T) {
	for _, s := range scenes {
		for _, c := range chunks() {
			for _, tag := range tags {
				x := s.at(t)
				whole := append(slices.Clone(c.Value), "behind"...)
				was := string(whole)
				x.recv(t, tag, api.Chunk{Type: c.Type, Flags: c.Flags, Value: whole[:len(c.Value)]}, 40, 5)
				if string(whole) != was {
					t.Fatalf("%s: %x, and was %x", s.name, whole, was)
				}
				for i := range whole {
					whole[i] ^= 255
				}
				x.stands(t)
			}
		}
	}
}

// spoil writes over all that an answer can reach.
func spoil(o Out) {
	for i := range o.Packets[:cap(o.Packets)] {
		l := &o.Packets[:cap(o.Packets)][i]
		b := l.Chunk.Value[:cap(l.Chunk.Value)]
		for j := range b {
			b[j] ^= 0xff
		}
		*l = Letter{Tag: 0xdead, Chunk: api.Chunk{Type: 255, Flags: 255}}
	}
	for i := range o.Events[:cap(o.Events)] {
		o.Events[:cap(o.Events)][i] = -1
	}
}

// TestResultsShareNoMemory: whoever spoils an answer spoils nothing else.
func TestResultsShareNoMemory(t *testing.T) {
	for range 3 {
		for _, s := range scenes {
			for _, c := range chunks() {
				x := s.at(t)
				spoil(x.recv(t, myTag, c, 40, 5))
				x.stands(t)
				spoil(x.tick(t, 1000))
				x.stands(t)
				spoil(x.tick(t, 2000))
				spoil(x.drained(t, 2000))
				o, _ := x.close(t, 2000, true)
				spoil(o)
				x.stands(t)
				spoil(x.recv(t, 0, laidHello(api.Init, 1, 2, 3, 4, 5, nil), 2001, 7))
				x.stands(t)
				spoil(x.abort(t))
				o, _ = x.open(t, 6, 7, 3000)
				spoil(o)
				x.stands(t)
			}
		}
	}
}

// TestRulesAreOnesOwn: two associations from the same rules have nothing to do with each other.
func TestRulesAreOnesOwn(t *testing.T) {
	x, y := newBoth(ruled), newBoth(ruled)
	x.open(t, 1, 2, 3)
	x.abort(t)
	closed(t, "the one", x, key+1)
	closed(t, "the other one", y, key)
}

func TestNil(t *testing.T) {
	var a *Assoc
	if o, e := a.Open(0, 0, 0); e != api.ErrArg || !sameOut(o, Out{}) {
		t.Errorf("Open: %v, %d", o, e)
	}
	if o, e := a.Open(1, 2, 3); e != api.ErrArg || !sameOut(o, Out{}) {
		t.Errorf("Open: %v, %d", o, e)
	}
	for _, drained := range []bool{false, true} {
		if o, e := a.Close(1, drained); e != api.ErrArg || !sameOut(o, Out{}) {
			t.Errorf("Close: %v, %d", o, e)
		}
	}
	for _, c := range chunks() {
		for _, tag := range tags {
			if o := a.Recv(tag, c, 1, 2); !sameOut(o, Out{}) {
				t.Errorf("Recv: %v", o)
			}
		}
	}
	for _, o := range []Out{a.Tick(0), a.Tick(math.MaxInt), a.Drained(1), a.Abort()} {
		if !sameOut(o, Out{}) {
			t.Errorf("%v", o)
		}
	}
	m, p := a.Tags()
	f, g := a.Firsts()
	if a.State() != 0 || m != 0 || p != 0 || f != 0 || g != 0 {
		t.Errorf("%d, %d, %d, %d, %d", a.State(), m, p, f, g)
	}
}

// TestExtremes: calls at times beyond all promises, and on an association that New never saw, return.
func TestExtremes(t *testing.T) {
	times := []int{math.MinInt, math.MinInt + 1, -1, 0, 1, math.MaxInt - 1, math.MaxInt}
	for _, s := range scenes {
		for _, now := range times {
			for _, c := range chunks() {
				x := s.at(t)
				x.a.Recv(myTag, c, now, 0)
				x.a.Tick(now)
				x.a.Close(now, true)
				x.a.Drained(now)
				x.a.Tick(math.MaxInt)
				x.a.Abort()
				x.a.Open(1, 1, now)
			}
		}
	}
	for _, now := range times {
		a := &Assoc{}
		a.Recv(0, laidHello(api.Init, 1, 2, 3, 4, 5, nil), now, 0)
		a.Open(1, 2, now)
		a.Tick(now)
		a.Abort()
		a.Recv(1, plain(api.ShutdownAck), now, 0)
	}
}

// TestTwiceTheSame: the same calls from the start have the same results.
func TestTwiceTheSame(t *testing.T) {
	play := func() []Out {
		x := newBoth(ruled)
		first, _ := x.open(t, 1, 2, 3)
		list := []Out{first, x.tick(t, 13)}
		for _, c := range chunks() {
			list = append(list, x.recv(t, 1, c, 31, 4), x.recv(t, 0, c, 31, 5), x.tick(t, 60))
		}
		return list
	}
	first := play()
	for range 5 {
		if !slices.EqualFunc(play(), first, sameOut) {
			t.Fatal("the same calls have other results")
		}
	}
}

func FuzzAnyArguments(f *testing.F) {
	f.Add([]byte("\x00\x01\x02\x03\x04\x05\x06\x07\x08\x09\x0a"), []byte("cookie"), uint64(41), 100, 10, 2, uint8(3))
	f.Add([]byte("\x10\x11\x12\x13\x14\x15\x16\x17\x18\x19\x1a"), []byte{0, 3, 0, 4}, uint64(math.MaxUint64), 1, 1, 0, uint8(1))
	f.Add([]byte("\x20\x31\x42\x53\x64\x75\x86\x97\xa8\xb9\xca"), laidHello(api.Init, 1, 2, 3, 4, 5, nil).Value, uint64(0), 1<<20, 1<<20, 100, uint8(0))
	f.Add([]byte("\x0f\x1e\x2d\x3c\x4b\x5a\x69\x78\x87\x96\xa5"), laidHello(api.InitAck, 1, 2, 3, 4, 5, []byte("cookie")).Value, uint64(7), 0, 10, 2, uint8(255))
	all := chunks()
	f.Fuzz(func(t *testing.T, calls, value []byte, k uint64, life, rto, tries int, flags uint8) {
		rules := Rules{Key: k, Window: uint32(k), Life: life, Rto: rto, Tries: tries}
		a, e := New(rules)
		if may := life >= 1 && life <= 1<<20 && rto >= 1 && rto <= 1<<20 && tries >= 0 && tries <= 100; may != (e == api.OK) || may != (a != nil) {
			t.Fatalf("New(%v): %v, %d", rules, a, e)
		}
		if a == nil {
			rules = ruled
		}
		x := newBoth(rules)
		was := string(value)
		now := 0
		for i, b := range calls[:min(len(calls), 100)] {
			n := int(b >> 4)
			tag := tags[n%len(tags)]
			if n%3 == 0 {
				tag, _ = x.a.Tags()
			}
			switch b % 16 {
			case 0, 1:
				x.open(t, tag, uint32(n), now)
			case 2:
				x.close(t, now, n%2 == 0)
			case 3:
				x.drained(t, now)
			case 4:
				x.abort(t)
			case 5, 6:
				x.tick(t, now)
			case 7, 8:
				now += n * rules.Rto / 4
			case 9:
				now -= n
			case 10, 11, 12:
				x.recv(t, tag, api.Chunk{Type: b >> 4, Flags: flags, Value: value}, now, uint32(i))
			default:
				x.recv(t, tag, all[(i*31+n)%len(all)], now, uint32(i*n))
			}
		}
		x.stands(t)
		if string(value) != was {
			t.Fatal("the argument changed")
		}
	})
}
