package avp

import (
	"slices"

	"trunkline/api"
)

const maxItems = 4 * api.MaxAvps

// Item is an AVP, and how many groups it is in.
type Item struct {
	Depth int
	Avp   api.Avp
}

// opener has the Items up to the place where it is.
type opener struct {
	groups []uint32
	items  []Item
}

// stop is what an opener aborts with, from whatever depth.
type stop struct {
	e api.Errno
}

// Open returns the AVPs whose bytes b is, and behind each group what is in it.
func Open(b []byte, groups ...uint32) ([]Item, api.Errno) {
	list, _, e := Get(b)
	if e != api.OK {
		return nil, e
	}
	o := opener{groups: groups}
	if e := o.run(list); e != api.OK {
		return nil, e
	}
	return o.items, api.OK
}

// run opens a list, and returns the error that aborted it.
func (o *opener) run(list []api.Avp) (e api.Errno) {
	defer func() {
		p := recover()
		if p == nil {
			return
		}
		s, ok := p.(stop)
		if !ok {
			panic(p) // none of ours: a mistake of the program may not pass for one of the bytes
		}
		e = s.e
	}()
	o.open(list, 0)
	return api.OK
}

// open adds the Items of a list, or aborts.
func (o *opener) open(list []api.Avp, depth int) {
	for _, a := range list {
		o.add(a, depth)
		if a.Vendor == 0 && slices.Contains(o.groups, a.Code) {
			o.open(inside(a), depth+1)
		}
	}
}

// add adds an Item, or aborts if there may be none there.
func (o *opener) add(a api.Avp, depth int) {
	if depth >= api.MaxDepth {
		panic(stop{api.ErrDeep})
	}
	if len(o.items) == maxItems {
		panic(stop{api.ErrLarge})
	}
	o.items = append(o.items, Item{Depth: depth, Avp: a})
}

// inside returns the AVPs in a group, or aborts.
func inside(group api.Avp) []api.Avp {
	list, _, e := Get(group.Data)
	if e != api.OK {
		panic(stop{api.ErrForm})
	}
	return list
}
