package link

import (
	"trunkline/api"
	"trunkline/assoc"
	"trunkline/packet"
	"trunkline/wire"
)

// The bytes ahead of a packet's chunks, and ahead of a chunk's Value.
const (
	packetHead = 12
	chunkHead  = 4
)

// mine reports whether a tag is that of this side.
func (l *Link) mine(tag uint32) bool {
	mine, _ := l.side.Tags()
	return tag == mine
}

// follow does what the association says: its letters are sent, and its events begin and end lives.
func (l *Link) follow(out assoc.Out, path, now int) {
	for _, x := range out.Packets {
		l.post(path, x.Tag, x.Chunk)
	}
	for _, event := range out.Events {
		l.news = append(l.news, News{Kind: event})
		l.life = nil
		if event == assoc.Up || event == assoc.Restart {
			mine, peer := l.side.Firsts()
			l.life = newLife(mine, peer, now)
		}
	}
}

// pump sends the pieces that may be sent now.
func (l *Link) pump(now int) {
	path := l.life.best(l.path)
	l.write(path, l.life.load(path)...)
	l.life.wind(now)
}

// write sends chunks to the other side, which is known.
func (l *Link) write(path int, chunks ...api.Chunk) {
	_, peer := l.side.Tags()
	l.post(path, peer, chunks...)
}

// post sends chunks on a path, in as few packets as Mtu allows.
func (l *Link) post(path int, tag uint32, chunks ...api.Chunk) {
	for len(chunks) > 0 {
		n := fitting(chunks)
		b, e := packet.Put(api.Packet{From: l.from, To: l.to, Tag: tag, Chunks: chunks[:n]})
		if e == api.OK {
			l.parcels = append(l.parcels, Parcel{Path: path, Bytes: b})
		}
		chunks = chunks[n:]
	}
}

// fitting returns how many of the chunks, from the first one on, go into one packet: that one, however long it is, and as many more as Mtu has room for, which are fewer than MaxChunks.
func fitting(chunks []api.Chunk) int {
	size := packetHead
	for i, c := range chunks {
		size += chunkHead + len(c.Value) + wire.Pad(len(c.Value))
		if size > api.Mtu && i > 0 {
			return i
		}
	}
	return len(chunks)
}
