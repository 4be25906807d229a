package link

import (
	"trunkline/api"
	"trunkline/chunk"
	"trunkline/frag"
	"trunkline/rto"
	"trunkline/sendq"
	"trunkline/tsn"
)

// burst is how many pieces are sent at once at most, so that a Tick, with its Beats and a letter, stays below MaxOut packets.
const burst = api.MaxOut / 2

// life is what there is while an association is established, until it ends or begins anew.
type life struct {
	*sendq.Queue
	cutter  *frag.Cutter
	track   *tsn.Track
	box     *frag.Box
	owes    bool // a Sack, for Data that came
	strange int  // Beats that came from elsewhere, since there was a sign of the other side
	roads   [api.MaxPaths]road
}

// road is a path, as this life knows it.
type road struct {
	api.Way
	waits bool // for pieces that are in flight; they count as lost Rto ticks after since
	since int
	asks  bool // by a Beat that isn't answered
	asked int  // when the last Beat was sent
}

// newLife returns a life in which the sides' TSNs begin with these.
func newLife(mine, peer uint32, now int) *life {
	v := &life{Queue: sendq.New(mine), cutter: frag.NewCutter(), track: tsn.New(peer), box: frag.NewBox()}
	for path := range v.roads {
		v.roads[path] = road{Way: rto.New(), asked: now - interval}
	}
	return v
}

// room returns how many pieces more can be queued.
func (v *life) room() int {
	waiting, out := v.Len()
	return api.MaxOut - waiting - out
}

// drained reports whether all that was sent has arrived; where there is no life, nothing was sent.
func (v *life) drained() bool {
	return v == nil || v.room() == api.MaxOut
}

// queue queues a message, which can be cut, and for whose pieces there is room.
func (v *life) queue(m api.Message, unordered bool) {
	pieces, _ := v.cutter.Cut(m, unordered, api.MaxPiece)
	for _, p := range pieces {
		v.Push(p)
	}
}

// best returns the path with the fewest errors: if others have no more, the one on which the other side was heard last.
func (v *life) best(last int) int {
	best := last
	for path := range v.roads {
		if v.roads[path].Errors < v.roads[best].Errors {
			best = path
		}
	}
	return best
}

// space returns how many bytes more may be in flight on a path.
func (v *life) space(path int) int {
	return rto.Room(v.roads[path].Way, v.Flight(path))
}

// load returns what may be sent on a path now.
func (v *life) load(path int) []api.Chunk {
	var data []api.Chunk
	for len(data) < burst && v.space(path) > 0 {
		p, there := v.Next(path)
		if !there {
			break
		}
		c, _ := chunk.FromPiece(p) // no error: it was cut
		data = append(data, c)
	}
	return data
}

// wind lets those roads wait on which something is in flight, and no others.
func (v *life) wind(now int) {
	for path := range v.roads {
		r := &v.roads[path]
		flying := v.Flight(path) > 0
		if flying && !r.waits {
			r.since = now
		}
		r.waits = flying
	}
}

// expire gives up the pieces for which a road waited too long, to be sent again, and reports whether there is such a road.
func (v *life) expire(now int) bool {
	late := false
	for path := range v.roads {
		r := &v.roads[path]
		if r.waits && now-r.since >= r.Rto {
			v.Late(path)
			r.become(rto.Late(r.Way))
			r.waits, late = false, true
		}
	}
	return late
}

// data takes a Data, and returns the messages that it completes.
func (v *life) data(c api.Chunk) []api.Message {
	p, e := chunk.ToPiece(c)
	if e != api.OK {
		return nil
	}
	v.owes = true                                                     // for what came before too, because its Sack may be lost
	if v.box.Held() >= api.MaxAhead || v.track.Got(p.TSN) != api.OK { // in this order, because what is recorded must find room
		return nil
	}
	messages, _ := v.box.Put(p)
	return messages
}

// sack returns the Sack that is owed.
func (v *life) sack() api.Chunk {
	v.owes = false
	c, _ := chunk.FromHeard(v.track.Tell(window)) // no error: a Track tells no more than a Sack can say
	return c
}

// heard takes a Sack.
func (v *life) heard(c api.Chunk) {
	h, e := chunk.ToHeard(c)
	if e != api.OK {
		return
	}
	var full [api.MaxPaths]bool
	for path := range v.roads {
		full[path] = v.space(path) == 0
	}
	acked, fast, _ := v.Heard(h) // nothing, if it is an old one
	for path, bytes := range acked {
		r := &v.roads[path]
		r.become(rto.Acked(r.Way, bytes, full[path]))
		r.waits = r.waits && bytes == 0 // if there is more, it waits anew
	}
	for _, path := range fast {
		r := &v.roads[path]
		r.become(rto.Fast(r.Way))
	}
}

// become takes what a call of package rto makes of the way, unless it refuses.
func (r *road) become(w api.Way, e api.Errno) {
	if e == api.OK {
		r.Way = w
	}
}
