package link

import (
	"trunkline/api"
	"trunkline/chunk"
)

// unrecognized is how the Value of an Error begins that tells of a chunk of an unknown type; the head of that chunk follows.
const unrecognized = "\x00\x06\x00\x08"

// arrival is how the chunks of a packet came.
type arrival struct {
	path, now int
	tag, draw uint32
}

// take takes the chunks of a packet.
func (l *Link) take(a arrival, chunks []api.Chunk) {
	for _, c := range chunks {
		switch {
		case !known(c):
			if !l.unknown(a, c) {
				return
			}
		case !ofLife(c):
			l.follow(l.side.Recv(a.tag, c, a.now, a.draw), a.path, a.now)
		case l.life != nil:
			l.live(a, c)
		}
	}
}

// unknown does what is done with a chunk of an unknown type, and reports whether the rest of the packet is taken.
func (l *Link) unknown(a arrival, c api.Chunk) bool {
	skip, tell := chunk.Action(c.Type)
	if tell && l.life != nil && l.mine(a.tag) {
		b, _ := chunk.Put(c) // no error: it came in a packet
		l.write(a.path, api.Chunk{Type: api.Error, Value: append([]byte(unrecognized), b[:chunkHead]...)})
	}
	return skip
}

// live takes a chunk that belongs to the life.
func (l *Link) live(a arrival, c api.Chunk) {
	switch c.Type {
	case api.Data:
		for _, m := range l.life.data(c) {
			l.news = append(l.news, News{Kind: arrived, Message: m})
		}
	case api.Sack:
		l.life.heard(c)
	case api.Beat:
		l.write(a.path, api.Chunk{Type: api.BeatAck, Value: c.Value})
		l.meet(c.Value)
	case api.BeatAck:
		l.life.answered(c.Value, a.now)
	}
}

// reply does what is to be done after a packet that came on that path.
func (l *Link) reply(path, now int) {
	if l.life == nil {
		return
	}
	if l.life.owes {
		l.write(path, l.life.sack())
	}
	if l.life.drained() {
		l.follow(l.side.Drained(now), path, now)
	}
	l.pump(now)
}

// ofLife reports whether a chunk belongs to a life, and not to the association.
func ofLife(c api.Chunk) bool {
	switch c.Type {
	case api.Data, api.Sack, api.Beat, api.BeatAck:
		return true
	}
	return false
}

// known reports whether the type of a chunk is known.
func known(c api.Chunk) bool {
	return c.Type <= api.CookieAck || c.Type == api.ShutdownComplete
}
