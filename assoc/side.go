package assoc

import (
	"slices"

	"trunkline/api"
	"trunkline/chunk"
	"trunkline/cookie"
)

// stale is the Value of an Error which tells that a cookie isn't Fresh any more.
const stale = "\x00\x03\x00\x04"

// reflected is the Flags of a chunk whose Tag is that of the side which sent it, because that side doesn't know the other one's.
const reflected = 1

// side is one side of an association. What it is without its rules is nothing if it is Closed.
type side struct {
	Rules // the Key of which changes when an association ends
	alarm
	state      int
	mine, peer numbers
}

// numbers is what a side tells of itself.
type numbers struct {
	tag, first uint32
}

// alarm is a letter that is awaited, and when it is sent again. Both are one, because neither is there without the other; a cookie that came is in the letter that returns it.
type alarm struct {
	on       bool
	at, left int
	letter   Letter
}

// due reports whether the letter is late.
func (l *alarm) due(now int) bool {
	return l.on && l.at <= now
}

// again sends the letter; a copy, because who gets it may change it.
func (l *alarm) again() Out {
	return sent(l.letter.Tag, l.letter.Chunk)
}

// await enters a state in which a letter is awaited, and sends it.
func (s *side) await(state int, tag uint32, c api.Chunk, now int) Out {
	s.state = state
	s.alarm = alarm{on: true, at: now + s.Rto, left: s.Tries, letter: Letter{Tag: tag, Chunk: c}}
	return s.again()
}

// settle enters a state in which no letter is awaited.
func (s *side) settle(state int) {
	s.state, s.alarm = state, alarm{}
}

// forget makes the side Closed. Its Key changes, so that no cookie from before is taken for one of what comes after.
func (s *side) forget() {
	*s = side{Rules: s.Rules}
	s.Key++
}

// end makes the side Closed, with an event.
func (s *side) end(event int) Out {
	s.forget()
	return Out{Events: []int{event}}
}

// call sends the Init.
func (s *side) call(now int) Out {
	return s.await(CookieWait, 0, s.hello(s.mine, nil), now)
}

// shutDown sends the Shutdown.
func (s *side) shutDown(now int) Out {
	return s.await(ShutSent, s.peer.tag, api.Chunk{Type: api.Shutdown}, now)
}

// ackShutdown sends the ShutdownAck.
func (s *side) ackShutdown(now int) Out {
	return s.await(ShutAckSent, s.peer.tag, api.Chunk{Type: api.ShutdownAck}, now)
}

// called takes an Init.
func (s *side) called(tag uint32, c api.Chunk, now int, draw uint32) Out {
	h, e := chunk.ToHello(c)
	if e != api.OK || tag != 0 {
		return Out{}
	}
	if s.state == ShutAckSent {
		return s.again()
	}
	own, tieMine, tiePeer := s.offer(draw)
	crumb := api.Crumb{Time: now, Mine: own.tag, Peer: h.Tag, MyTSN: own.first, PeerTSN: h.TSN, Window: h.Window, TieMine: tieMine, TiePeer: tiePeer}
	sealed, e := cookie.Seal(s.Key, crumb)
	if e != api.OK { // of now: no tag is 0
		return Out{}
	}
	return sent(h.Tag, s.hello(own, sealed))
}

// offer returns the numbers with which an Init is answered, and the ties of the cookie: what this side has is kept while both may be opening at once, and by the ties a side that begins anew is known.
func (s *side) offer(draw uint32) (own numbers, tieMine, tiePeer uint32) {
	switch s.state {
	case Closed:
		return fresh(draw), 0, 0
	case CookieWait:
		return s.mine, 0, 0
	case CookieEchoed:
		return s.mine, s.mine.tag, s.peer.tag
	}
	return fresh(draw), s.mine.tag, s.peer.tag
}

// answered takes an InitAck.
func (s *side) answered(tag uint32, c api.Chunk, now int) Out {
	h, e := chunk.ToHello(c)
	if e != api.OK || s.state != CookieWait || tag != s.mine.tag {
		return Out{}
	}
	s.peer = numbers{tag: h.Tag, first: h.TSN}
	return s.await(CookieEchoed, h.Tag, api.Chunk{Type: api.CookieEcho, Value: h.Cookie}, now)
}

// echoed takes a CookieEcho.
func (s *side) echoed(tag uint32, value []byte, now int) Out {
	c, e := cookie.Open(s.Key, value)
	switch {
	case e != api.OK || tag != c.Mine:
		return Out{}
	case !cookie.Fresh(c, now, s.Life):
		return sent(c.Peer, api.Chunk{Type: api.Error, Value: []byte(stale)})
	case s.state == Closed:
		return s.accept(c, Up)
	case s.state == ShutAckSent:
		return s.again()
	}
	return s.compare(c)
}

// compare takes a cookie beside what this side knows already: it may be of the same association, of one that both sides opened at once, or of a side that begins anew.
func (s *side) compare(c api.Crumb) Out {
	opening := s.state == CookieWait || s.state == CookieEchoed
	sameMine, samePeer := c.Mine == s.mine.tag, c.Peer == s.peer.tag
	switch {
	case !sameMine && !samePeer && s.tied(c):
		return s.accept(c, Restart)
	case sameMine && opening:
		return s.accept(c, Up)
	case sameMine && !samePeer:
		return s.accept(c, Restart)
	case sameMine:
		return sent(s.peer.tag, api.Chunk{Type: api.CookieAck})
	}
	return Out{}
}

// tied reports whether a cookie was made beside this association. One tie is held against 0 and not both, because Mine is 0 in the state Closed alone.
func (s *side) tied(c api.Crumb) bool {
	return c.TieMine == s.mine.tag && c.TiePeer == s.peer.tag && c.TiePeer != 0
}

// accept establishes the association that a cookie tells of.
func (s *side) accept(c api.Crumb, event int) Out {
	s.mine = numbers{tag: c.Mine, first: c.MyTSN}
	s.peer = numbers{tag: c.Peer, first: c.PeerTSN}
	s.settle(Established)
	return sent(c.Peer, api.Chunk{Type: api.CookieAck}, event)
}

// confirmed takes a CookieAck.
func (s *side) confirmed(tag uint32) Out {
	if s.state != CookieEchoed || tag != s.mine.tag {
		return Out{}
	}
	s.settle(Established)
	return Out{Events: []int{Up}}
}

// refused takes an Error.
func (s *side) refused(tag uint32, value []byte, now int) Out {
	if s.state != CookieEchoed || tag != s.mine.tag || string(value) != stale {
		return Out{}
	}
	s.peer = numbers{}
	return s.call(now)
}

// aborted takes an Abort.
func (s *side) aborted(tag uint32, flags uint8) Out {
	if s.state == Closed || !s.meant(tag, flags) {
		return Out{}
	}
	return s.end(Lost)
}

// shut takes a Shutdown.
func (s *side) shut(tag uint32, now int) Out {
	if tag != s.mine.tag {
		return Out{}
	}
	switch s.state {
	case Established, Pending:
		s.settle(ShutReceived)
	case ShutSent:
		return s.ackShutdown(now)
	}
	return Out{}
}

// shutAcked takes a ShutdownAck. A side that is Closed answers too, because the one which sent it would send it again and again.
func (s *side) shutAcked(tag uint32) Out {
	switch {
	case s.state == Closed:
		return sent(tag, api.Chunk{Type: api.ShutdownComplete, Flags: reflected})
	case tag != s.mine.tag || s.state != ShutSent && s.state != ShutAckSent:
		return Out{}
	}
	peer := s.peer.tag
	s.forget()
	return sent(peer, api.Chunk{Type: api.ShutdownComplete}, Over)
}

// completed takes a ShutdownComplete.
func (s *side) completed(tag uint32, flags uint8) Out {
	if s.state != ShutAckSent || !s.meant(tag, flags) {
		return Out{}
	}
	return s.end(Over)
}

// meant reports whether what ends an association is meant for this one.
func (s *side) meant(tag uint32, flags uint8) bool {
	return tag == s.mine.tag || flags == reflected && tag == s.peer.tag && tag != 0
}

// hello returns the Init by which this side tells those numbers, or the InitAck if there is a cookie.
func (s *side) hello(own numbers, sealed []byte) api.Chunk {
	h := api.Hello{Tag: own.tag, Window: s.Window, Out: api.MaxStreams, In: api.MaxStreams, TSN: own.first, Cookie: sealed}
	c, _ := chunk.FromHello(h, len(sealed) != 0) // no error: the tag isn't 0, and a sealed cookie is short enough
	return c
}

// fresh returns the numbers of a draw; no tag is 0.
func fresh(draw uint32) numbers {
	return numbers{tag: max(draw, 1), first: ^draw}
}

// sent returns a chunk that is sent, and the events that come with it.
func sent(tag uint32, c api.Chunk, events ...int) Out {
	c.Value = slices.Clone(c.Value)
	return Out{Packets: []Letter{{Tag: tag, Chunk: c}}, Events: events}
}
