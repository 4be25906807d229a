package link

import (
	"trunkline/api"
	"trunkline/assoc"
	"trunkline/rto"
	"trunkline/wire"
)

const (
	interval    = 30 // ticks from one Beat on a path to the next
	mostStrange = 3  // Beats from elsewhere, one after the other: a single one may just be late
)

// The sizes of the numbers of a Beat's Value.
const (
	pathSize = 1
	timeSize = 8
	tagSize  = 4
)

// beat is what the Value of a Beat says, which returns in the BeatAck.
type beat struct {
	path, sent int
	from       uint32 // the tag of its sender
}

// value returns the Value of the Beat.
func (x beat) value() []byte {
	b := wire.Put(nil, uint64(x.path), pathSize)
	b = wire.Put(b, uint64(x.sent), timeSize)
	return wire.Put(b, uint64(x.from), tagSize)
}

// toBeat returns what a Value says, and whether it is that of a Beat.
func toBeat(b []byte) (beat, bool) {
	path, _ := wire.Get(b, 0, pathSize)
	sent, _ := wire.Get(b, pathSize, timeSize)
	from, _ := wire.Get(b, pathSize+timeSize, tagSize)
	if len(b) != pathSize+timeSize+tagSize || path >= api.MaxPaths {
		return beat{}, false
	}
	return beat{path: int(path), sent: int(sent), from: uint32(from)}, true
}

// ask sends a Beat on each path where the last one was long ago, and takes that for lost if it isn't answered.
func (l *Link) ask(now int) {
	mine, _ := l.side.Tags()
	for path := range l.life.roads {
		r := &l.life.roads[path]
		if now-r.asked < interval {
			continue
		}
		if r.asks {
			r.become(rto.Late(r.Way))
		}
		r.asks, r.asked = true, now
		l.write(path, api.Chunk{Type: api.Beat, Value: beat{path: path, sent: now, from: mine}.value()})
	}
}

// answered takes the Value of a BeatAck. Only the last Beat is answered, and once: a path that was slow, or alive, long ago may be another one now.
func (v *life) answered(value []byte, now int) {
	x, ok := toBeat(value)
	if !ok {
		return
	}
	r := &v.roads[x.path]
	if r.asks && r.asked == x.sent {
		r.asks, v.strange = false, 0
		r.become(rto.Measure(r.Way, now-x.sent))
	}
}

// meet takes the Value of a Beat. A CookieEcho that comes late can establish this side with a life that the other one has left for a new one. What it sends may have our tag still, but it takes nothing of what we send: its Beats come from elsewhere, and ours stay unanswered. That would never end, so this life ends by it.
func (l *Link) meet(value []byte) {
	x, ok := toBeat(value)
	_, peer := l.side.Tags()
	switch {
	case !ok:
		return
	case x.from == peer:
		l.life.strange = 0
		return
	}
	l.life.strange++
	if l.life.strange == mostStrange {
		l.Abort()
		l.news = append(l.news, News{Kind: assoc.Lost})
	}
}
