package peer

import (
	"fmt"
	"slices"
	"testing"

	"trunkline/api"
)

// duel is two sides, 0 and 1, that call one another. Link 0 is the one that side 0 opened, link 1 the one of side 1.
type duel struct {
	names  [2]string
	refuse [2]bool // the call of a side comes to nothing
	state  [2]int
	travel []letter // in the order in which it was sent
	broken [2][2]bool
	did    [2][Clean + 1]int
}

// letter is an event that is on its way to a side, on a link.
type letter struct{ link, to, event int }

// order is a sequence in which letters of one link and one side may come.
type order int

const (
	inOrder order = iota // as they were sent
	closed               // as they were sent, but none on a link that the side has broken
	anyhow               // in any sequence
)

// copied returns a duel that shares nothing with d.
func (d duel) copied() duel {
	d.travel = slices.Clone(d.travel)
	return d
}

// send puts a letter on its way.
func (d *duel) send(link, to, event int) {
	d.travel = append(d.travel, letter{link, to, event})
}

// take hands a letter to its side, which does what is to be done then.
func (d *duel) take(t *testing.T, l letter) {
	t.Helper()
	me, other := l.to, 1-l.to
	next, do, e := Step(d.state[me], l.event, Wins(d.names[me], d.names[other]))
	if e != api.OK {
		t.Fatalf("%v: error %d", l, e)
	}
	d.state[me] = next
	for _, action := range do {
		d.did[me][action]++
		d.perform(me, other, action)
	}
}

// perform makes of an action what comes of it on the links.
func (d *duel) perform(me, other, action int) {
	switch action {
	case Call:
		if d.refuse[me] {
			d.send(me, me, Nack)
			return
		}
		d.send(me, me, Ack)
	case SendHello:
		d.send(me, other, TheirCall)
	case AnswerThem:
		d.send(other, other, MyWord)
	case RejectThem, BreakTheirs:
		d.broken[other][me] = true
		d.send(other, other, MyBreak)
	case BreakMine:
		d.broken[me][me] = true
		d.send(me, other, TheirBreak)
	}
}

// ready returns which letters may come next.
func (d *duel) ready(rule order) []int {
	var list []int
	for i, l := range d.travel {
		before := slices.ContainsFunc(d.travel[:i], func(o letter) bool { return o.link == l.link && o.to == l.to })
		if rule == anyhow || !before {
			list = append(list, i)
		}
	}
	return list
}

// ends goes on from d in every sequence that a rule allows, and adds each end that it finds to list.
func (d duel) ends(t *testing.T, rule order, seen map[string]int, list []duel) []duel {
	t.Helper()
	key := fmt.Sprint(d)
	if seen[key]++; seen[key] > 1 {
		return list
	}
	if len(d.travel) == 0 {
		return append(list, d)
	}
	for _, i := range d.ready(rule) {
		c := d.copied()
		l := c.travel[i]
		c.travel = slices.Delete(c.travel, i, i+1)
		if rule != closed || !c.broken[l.link][l.to] {
			c.take(t, l)
		}
		list = c.ends(t, rule, seen, list)
	}
	return list
}

// calls are the events by which both sides call one another.
var calls = []letter{{0, 0, Start}, {1, 1, Start}}

// outcomes returns the ends of a duel in which some letters come besides: at once, before anything else, or at any time. It fails if there was next to no choice.
func outcomes(t *testing.T, d duel, letters []letter, atOnce bool) []duel {
	t.Helper()
	var list []duel
	for _, rule := range []order{inOrder, closed, anyhow} {
		c := d.copied()
		for _, l := range letters {
			if atOnce {
				c.take(t, l)
			} else {
				c.travel = append(c.travel, l)
			}
		}
		seen := map[string]int{}
		list = c.ends(t, rule, seen, list)
		if len(seen) < 5 {
			t.Errorf("%v: %d places on the way", d.names, len(seen))
		}
	}
	return list
}

// TestBothCall has two sides that call one another at one time: in the end the call of the one that loses stands, in whatever sequence things come.
func TestBothCall(t *testing.T) {
	for _, c := range []struct {
		greater, less string
	}{
		{"b", "a"},
		{"B.x", "a.y"},
		{"abc", "ab"},
		{"a", ""},
		{"a2.realm", "a1.realm"},
		{"relay.a", "RELAY"},
		{"\xff", "~"},
	} {
		for winner, names := range [][2]string{{c.greater, c.less}, {c.less, c.greater}} {
			loser := 1 - winner
			for _, d := range outcomes(t, duel{names: names}, calls, true) {
				if d.state[winner] != Theirs || d.state[loser] != Mine {
					t.Fatalf("%v: %v", names, d.state)
				}
				if d.broken[loser] != [2]bool{} || !d.broken[winner][winner] {
					t.Fatalf("%v: broken are %v", names, d.broken)
				}
				won, lost := d.did[winner], d.did[loser]
				if won[SendHello] != 1 || won[AcceptThem] != 1 || won[AnswerThem] != 1 || won[BreakMine] != 1 || won[Report] != 0 || won[Clean] != 0 {
					t.Fatalf("%v: the one that wins did %v", names, won)
				}
				if lost[SendHello] != 1 || lost[AnswerThem] != 0 || lost[BreakMine] != 0 || lost[Report] != 1 || lost[Clean] != 0 {
					t.Fatalf("%v: the one that loses did %v", names, lost)
				}
			}
		}
	}
}

// TestLateStart has the two calls begin at any time: then too one side's call stands, for both of them.
func TestLateStart(t *testing.T) {
	for _, names := range [][2]string{{"b", "a"}, {"a", "b"}} {
		var found [2]int
		for _, d := range outcomes(t, duel{names: names}, calls, false) {
			caller := slices.Index(d.state[:], Mine)
			if caller < 0 || d.state[1-caller] != Theirs {
				t.Fatalf("%v: %v", names, d.state)
			}
			if d.broken[caller] != [2]bool{} || d.did[caller][Report] != 1 || d.did[1-caller][AnswerThem] != 1 {
				t.Fatalf("%v: broken are %v, done is %v", names, d.broken, d.did)
			}
			found[caller]++
		}
		if found[0] == 0 || found[1] == 0 {
			t.Errorf("%v: %v", names, found)
		}
	}
}

// TestOneCalls has one side alone that calls.
func TestOneCalls(t *testing.T) {
	for caller := range 2 {
		for _, names := range [][2]string{{"b", "a"}, {"a", "b"}, {"a", "a"}} {
			d := duel{names: names}
			d.take(t, letter{caller, caller, Start})
			for _, end := range d.ends(t, anyhow, map[string]int{}, nil) {
				if end.state[caller] != Mine || end.state[1-caller] != Theirs || end.broken != [2][2]bool{} {
					t.Errorf("%v: %v, broken are %v", names, end.state, end.broken)
				}
			}
		}
	}
}

// TestCallRefused has one of two calls come to nothing: the other one stands, whoever would win.
func TestCallRefused(t *testing.T) {
	for refused := range 2 {
		for _, names := range [][2]string{{"b", "a"}, {"a", "b"}} {
			d := duel{names: names}
			d.refuse[refused] = true
			for _, end := range outcomes(t, d, calls, true) {
				if end.state[refused] != Theirs || end.state[1-refused] != Mine {
					t.Errorf("%v, %d refused: %v", names, refused, end.state)
				}
			}
		}
	}
}

// TestNobodyWins has two sides whose names are the same but for case: both give way, till one of them has waited for too long, and then both are shut.
func TestNobodyWins(t *testing.T) {
	for _, names := range [][2]string{{"a.host", "A.Host"}, {"", ""}} {
		for _, d := range outcomes(t, duel{names: names}, calls, true) {
			if d.state != [2]int{Returns, Returns} {
				t.Fatalf("%v: %v", names, d.state)
			}
			for side := range 2 {
				for _, end := range outcomes(t, d, []letter{{side, side, Timeout}}, true) {
					if end.state != [2]int{Shut, Shut} {
						t.Fatalf("%v: %v", names, end.state)
					}
				}
			}
		}
	}
}
