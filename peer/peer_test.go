package peer

import (
	"math"
	"math/rand"
	"slices"
	"strings"
	"testing"

	"trunkline/api"
)

// table is the chapter's table, as it stands there.
const table = `
| Shut | Start | WaitAck | Call |
| Shut | TheirCall | Theirs | AcceptThem, AnswerThem |
| WaitAck | Ack | WaitWord | SendHello |
| WaitAck | Nack, Timeout | Shut | Clean |
| WaitAck | TheirCall | Electing | AcceptThem |
| WaitWord | MyWord | Mine | Report |
| WaitWord | TheirCall, win | Theirs | AcceptThem, BreakMine, AnswerThem |
| WaitWord | TheirCall, not win | Returns | AcceptThem |
| WaitWord | MyBreak | Shut | Clean |
| WaitWord | Timeout | Shut | BreakMine, Clean |
| Electing | Ack, win | Theirs | SendHello, BreakMine, AnswerThem |
| Electing | Ack, not win | Returns | SendHello |
| Electing | Nack | Theirs | AnswerThem |
| Electing | TheirBreak | WaitAck | BreakTheirs |
| Electing | TheirCall | Electing | RejectThem |
| Electing | Timeout | Shut | BreakMine, BreakTheirs, Clean |
| Returns | MyBreak | Theirs | AnswerThem |
| Returns | MyWord | Mine | BreakTheirs, Report |
| Returns | TheirBreak | WaitWord | BreakTheirs |
| Returns | TheirCall | Returns | RejectThem |
| Returns | Timeout | Shut | BreakMine, BreakTheirs, Clean |
| Mine, Theirs | TheirCall | unchanged | RejectThem |
| Mine, Theirs | Stop | Closing | SendLeave |
| Mine | MyLeave | Shut | AnswerLeave, BreakMine, Clean |
| Theirs | TheirLeave | Shut | AnswerLeave, BreakTheirs, Clean |
| Mine | MyBreak | Shut | Clean |
| Theirs | TheirBreak | Shut | Clean |
| Closing | Left, Timeout | Shut | BreakMine, BreakTheirs, Clean |
| Closing | MyBreak, TheirBreak | Shut | Clean |
| Closing | TheirCall | Closing | RejectThem |
`

const (
	states = 8
	events = 12
)

var (
	stateNames  = strings.Fields("Shut WaitAck WaitWord Electing Returns Mine Theirs Closing")                                                    // from 0 on
	eventNames  = strings.Fields("none Start TheirCall Ack Nack Timeout MyWord MyBreak TheirBreak Stop MyLeave TheirLeave Left")                  // from 1 on
	actionNames = strings.Fields("none Call SendHello AcceptThem AnswerThem RejectThem BreakMine BreakTheirs SendLeave AnswerLeave Report Clean") // from 1 on
)

// row is a row of the table. wins says for which win it holds.
type row struct {
	states, events []int
	wins           []bool
	next           int
	unchanged      bool
	do             []int
}

// number returns where a name stands in a list.
func number(t testing.TB, names []string, name string) int {
	t.Helper()
	n := slices.Index(names, name)
	if n < 0 || name == "none" {
		t.Fatalf("no such name: %s", name)
	}
	return n
}

// numbers returns what a list of names says.
func numbers(t testing.TB, names []string, list string) []int {
	t.Helper()
	var out []int
	for _, name := range strings.Split(list, ", ") {
		if list != "" {
			out = append(out, number(t, names, name))
		}
	}
	return out
}

// condition takes what a text says of win from its end.
func condition(text string) (string, []bool) {
	if rest, ok := strings.CutSuffix(text, ", not win"); ok {
		return rest, []bool{false}
	}
	if rest, ok := strings.CutSuffix(text, ", win"); ok {
		return rest, []bool{true}
	}
	return text, []bool{false, true}
}

// rows returns the rows of the table.
func rows(t testing.TB) []row {
	t.Helper()
	var list []row
	for line := range strings.Lines(strings.TrimSpace(table)) {
		cells := strings.Split(strings.Trim(strings.TrimSpace(line), "| "), " | ")
		if len(cells) != 4 {
			t.Fatalf("no row: %s", line)
		}
		r := row{states: numbers(t, stateNames, cells[0]), do: numbers(t, actionNames, cells[3])}
		cells[1], r.wins = condition(cells[1])
		r.events = numbers(t, eventNames, cells[1])
		if r.unchanged = cells[2] == "unchanged"; !r.unchanged {
			r.next = number(t, stateNames, cells[2])
		}
		list = append(list, r)
	}
	return list
}

// byTable returns what the table says, and the row that says it, or -1 if none does.
func byTable(t testing.TB, list []row, state, event int, win bool) (int, []int, int) {
	t.Helper()
	found := -1
	next, do := state, []int(nil)
	for i, r := range list {
		if !slices.Contains(r.states, state) || !slices.Contains(r.events, event) || !slices.Contains(r.wins, win) {
			continue
		}
		if found >= 0 {
			t.Fatalf("two rows for %s, %s, %t", stateNames[state], eventNames[event], win)
		}
		found, do = i, r.do
		if !r.unchanged {
			next = r.next
		}
	}
	return next, do, found
}

// steps holds Step against the table, and returns what it answers.
func steps(t testing.TB, list []row, state, event int, win bool) (int, []int, api.Errno) {
	t.Helper()
	next, do, e := Step(state, event, win)
	if state < 0 || state >= states || event < 1 || event > events {
		if next != 0 || do != nil || e != api.ErrArg {
			t.Fatalf("Step(%d, %d, %t): %d, %v, %d, want ErrArg and nothing else", state, event, win, next, do, e)
		}
		return next, do, e
	}
	want, wantDo, _ := byTable(t, list, state, event, win)
	if next != want || !slices.Equal(do, wantDo) || e != api.OK {
		t.Fatalf("Step(%s, %s, %t): %d, %v, %d, want %d, %v", stateNames[state], eventNames[event], win, next, do, e, want, wantDo)
	}
	return next, do, e
}

// every calls f with every combination that may be.
func every(f func(state, event int, win bool)) {
	for state := range states {
		for event := 1; event <= events; event++ {
			f(state, event, false)
			f(state, event, true)
		}
	}
}

// walk makes the steps that a text names, one a line: an event, with what win has to be if it counts, and behind a colon the state and the actions that are wanted then.
func walk(t *testing.T, state int, text string) int {
	t.Helper()
	list := rows(t)
	for line := range strings.Lines(strings.TrimSpace(text)) {
		head, rest, _ := strings.Cut(strings.TrimSpace(line), ": ")
		head, wins := condition(head)
		name, todo, _ := strings.Cut(rest, " ")
		event, want := number(t, eventNames, head), number(t, stateNames, name)
		for _, win := range wins {
			next, do, e := steps(t, list, state, event, win)
			if next != want || !slices.Equal(do, numbers(t, actionNames, todo)) || e != api.OK {
				t.Fatalf("%s in %s, win %t: %d, %v, %d", strings.TrimSpace(line), stateNames[state], win, next, do, e)
			}
		}
		state = want
	}
	return state
}

func TestNumbers(t *testing.T) {
	for i, n := range []int{Shut, WaitAck, WaitWord, Electing, Returns, Mine, Theirs, Closing} {
		if n != i {
			t.Errorf("%s is %d", stateNames[i], n)
		}
	}
	for i, n := range []int{Start, TheirCall, Ack, Nack, Timeout, MyWord, MyBreak, TheirBreak, Stop, MyLeave, TheirLeave, Left} {
		if n != i+1 {
			t.Errorf("%s is %d", eventNames[i+1], n)
		}
	}
	for i, n := range []int{Call, SendHello, AcceptThem, AnswerThem, RejectThem, BreakMine, BreakTheirs, SendLeave, AnswerLeave, Report, Clean} {
		if n != i+1 {
			t.Errorf("%s is %d", actionNames[i+1], n)
		}
	}
	if len(stateNames) != states || len(eventNames) != events+1 || len(actionNames) != 12 {
		t.Errorf("%d states, %d events, %d actions", len(stateNames), len(eventNames)-1, len(actionNames)-1)
	}
}

// TestRows has every row of the table, written out with numbers: one that doesn't mention win holds for both.
func TestRows(t *testing.T) {
	const no, yes, both = 0, 1, 2
	for _, c := range []struct {
		name             string
		state, event, of int
		next             int
		do               []int
	}{
		{"Shut, Start", 0, 1, both, 1, []int{1}},
		{"Shut, TheirCall", 0, 2, both, 6, []int{3, 4}},
		{"WaitAck, Ack", 1, 3, both, 2, []int{2}},
		{"WaitAck, Nack", 1, 4, both, 0, []int{11}},
		{"WaitAck, Timeout", 1, 5, both, 0, []int{11}},
		{"WaitAck, TheirCall", 1, 2, both, 3, []int{3}},
		{"WaitWord, MyWord", 2, 6, both, 5, []int{10}},
		{"WaitWord, TheirCall, win", 2, 2, yes, 6, []int{3, 6, 4}},
		{"WaitWord, TheirCall, not win", 2, 2, no, 4, []int{3}},
		{"WaitWord, MyBreak", 2, 7, both, 0, []int{11}},
		{"WaitWord, Timeout", 2, 5, both, 0, []int{6, 11}},
		{"Electing, Ack, win", 3, 3, yes, 6, []int{2, 6, 4}},
		{"Electing, Ack, not win", 3, 3, no, 4, []int{2}},
		{"Electing, Nack", 3, 4, both, 6, []int{4}},
		{"Electing, TheirBreak", 3, 8, both, 1, []int{7}},
		{"Electing, TheirCall", 3, 2, both, 3, []int{5}},
		{"Electing, Timeout", 3, 5, both, 0, []int{6, 7, 11}},
		{"Returns, MyBreak", 4, 7, both, 6, []int{4}},
		{"Returns, MyWord", 4, 6, both, 5, []int{7, 10}},
		{"Returns, TheirBreak", 4, 8, both, 2, []int{7}},
		{"Returns, TheirCall", 4, 2, both, 4, []int{5}},
		{"Returns, Timeout", 4, 5, both, 0, []int{6, 7, 11}},
		{"Mine, TheirCall", 5, 2, both, 5, []int{5}},
		{"Theirs, TheirCall", 6, 2, both, 6, []int{5}},
		{"Mine, Stop", 5, 9, both, 7, []int{8}},
		{"Theirs, Stop", 6, 9, both, 7, []int{8}},
		{"Mine, MyLeave", 5, 10, both, 0, []int{9, 6, 11}},
		{"Theirs, TheirLeave", 6, 11, both, 0, []int{9, 7, 11}},
		{"Mine, MyBreak", 5, 7, both, 0, []int{11}},
		{"Theirs, TheirBreak", 6, 8, both, 0, []int{11}},
		{"Closing, Left", 7, 12, both, 0, []int{6, 7, 11}},
		{"Closing, Timeout", 7, 5, both, 0, []int{6, 7, 11}},
		{"Closing, MyBreak", 7, 7, both, 0, []int{11}},
		{"Closing, TheirBreak", 7, 8, both, 0, []int{11}},
		{"Closing, TheirCall", 7, 2, both, 7, []int{5}},
	} {
		for i, win := range []bool{false, true} {
			if c.of != both && c.of != i {
				continue
			}
			if next, do, e := Step(c.state, c.event, win); next != c.next || !slices.Equal(do, c.do) || e != api.OK {
				t.Errorf("%s (%t): %d, %v, %d, want %d, %v", c.name, win, next, do, e, c.next, c.do)
			}
		}
	}
}

// TestOutsideTheTable has every combination that isn't in the table: nothing changes then, and nothing is to be done.
func TestOutsideTheTable(t *testing.T) {
	list := rows(t)
	n := 0
	for state, outside := range [][]int{
		Shut:     {Ack, Nack, Timeout, MyWord, MyBreak, TheirBreak, Stop, MyLeave, TheirLeave, Left},
		WaitAck:  {Start, MyWord, MyBreak, TheirBreak, Stop, MyLeave, TheirLeave, Left},
		WaitWord: {Start, Ack, Nack, TheirBreak, Stop, MyLeave, TheirLeave, Left},
		Electing: {Start, MyWord, MyBreak, Stop, MyLeave, TheirLeave, Left},
		Returns:  {Start, Ack, Nack, Stop, MyLeave, TheirLeave, Left},
		Mine:     {Start, Ack, Nack, Timeout, MyWord, TheirBreak, TheirLeave, Left},
		Theirs:   {Start, Ack, Nack, Timeout, MyWord, MyBreak, MyLeave, Left},
		Closing:  {Start, Ack, Nack, MyWord, Stop, MyLeave, TheirLeave},
	} {
		for _, event := range outside {
			for _, win := range []bool{false, true} {
				n++
				if next, do, e := Step(state, event, win); next != state || len(do) != 0 || e != api.OK {
					t.Errorf("Step(%s, %s, %t): %d, %v, %d, want nothing", stateNames[state], eventNames[event], win, next, do, e)
				}
				if _, _, row := byTable(t, list, state, event, win); row >= 0 {
					t.Errorf("%s, %s, %t is in the table", stateNames[state], eventNames[event], win)
				}
			}
		}
	}
	if n != 63*2 {
		t.Errorf("%d combinations", n)
	}
}

// TestEveryCombination holds all that may be against the table, each row of which comes up.
func TestEveryCombination(t *testing.T) {
	list := rows(t)
	used := make([]int, len(list))
	inside, outside := 0, 0
	every(func(state, event int, win bool) {
		next, do, _ := steps(t, list, state, event, win)
		_, _, row := byTable(t, list, state, event, win)
		switch {
		case row >= 0:
			used[row]++
			inside++
		case next != state || len(do) != 0:
			t.Errorf("Step(%s, %s, %t): %d, %v", stateNames[state], eventNames[event], win, next, do)
		default:
			outside++
		}
	})
	if len(used) != 30 || inside != 33*2 || outside != 63*2 {
		t.Errorf("%d rows, %d combinations in the table, %d outside it", len(used), inside, outside)
	}
	for i, n := range used {
		if n == 0 {
			t.Errorf("row %d of the table never came up", i)
		}
	}
}

func TestEdges(t *testing.T) {
	for _, c := range []struct {
		name         string
		state, event int
		want         api.Errno
	}{
		{"state -1", -1, 1, api.ErrArg},
		{"state -1, TheirCall", -1, 2, api.ErrArg},
		{"state 0", 0, 1, api.OK},
		{"state 7", 7, 1, api.OK},
		{"state 7, Left", 7, 12, api.OK},
		{"state 8", 8, 1, api.ErrArg},
		{"state 8, Left", 8, 12, api.ErrArg},
		{"event 0", 0, 0, api.ErrArg},
		{"event 0 in Closing", 7, 0, api.ErrArg},
		{"event 1", 0, 1, api.OK},
		{"event 12", 0, 12, api.OK},
		{"event 13", 0, 13, api.ErrArg},
		{"event 13 in Closing", 7, 13, api.ErrArg},
		{"both below", -1, 0, api.ErrArg},
		{"state below, event above", -1, 13, api.ErrArg},
		{"state above, event below", 8, 0, api.ErrArg},
		{"both above", 8, 13, api.ErrArg},
	} {
		for _, win := range []bool{false, true} {
			next, do, e := Step(c.state, c.event, win)
			if e != c.want {
				t.Errorf("%s (%t): error %d, want %d", c.name, win, e, c.want)
			}
			if c.want != api.OK && (next != 0 || do != nil) {
				t.Errorf("%s (%t): %d, %v beside the error", c.name, win, next, do)
			}
		}
	}
}

// TestWrongArguments has numbers that may not be, alone and together, beside those that may.
func TestWrongArguments(t *testing.T) {
	list := rows(t)
	far := []int{math.MinInt, math.MinInt + 1, -1 << 32, -256, -13, -8, -2, -1, 256, 257, 258, 1 << 31, 1 << 32, 1<<32 + 1, 1<<32 + 2, math.MaxInt - 1, math.MaxInt}
	near := []int{0, 1, 2, 3, 4, 5, 6, 7, 8, 9, 10, 11, 12, 13, 14}
	all := append(far, near...)
	right, wrong := 0, 0
	for _, state := range all {
		for _, event := range all {
			for _, win := range []bool{false, true} {
				if _, _, e := steps(t, list, state, event, win); e == api.OK {
					right++
				} else {
					wrong++
				}
			}
		}
	}
	if right != states*events*2 || wrong != len(all)*len(all)*2-right {
		t.Errorf("%d accepted, %d not", right, wrong)
	}
}

// TestNothingIsShared has a caller that writes into what it was told, and into the room behind it: nothing that is told then is different, nor what was told before.
func TestNothingIsShared(t *testing.T) {
	list := rows(t)
	var kept [][]int
	every(func(state, event int, win bool) {
		_, before, _ := Step(state, event, win)
		kept = append(kept, before)
		for range 3 {
			_, do, _ := Step(state, event, win)
			do = do[:cap(do)]
			for i := range do {
				do[i] = -99
			}
			_ = append(do[:0], 98, 97, 96, 95)
			steps(t, list, state, event, win)
		}
	})
	every(func(state, event int, win bool) {
		_, want, _ := byTable(t, list, state, event, win)
		if !slices.Equal(kept[0], want) {
			t.Errorf("%s, %s, %t: what was told is %v by now", stateNames[state], eventNames[event], win, kept[0])
		}
		kept = kept[1:]
		steps(t, list, state, event, win)
	})
}

// TestTwiceTheSame: nothing is kept between calls.
func TestTwiceTheSame(t *testing.T) {
	every(func(state, event int, win bool) {
		next, do, e := Step(state, event, win)
		Step(Electing, Ack, !win)
		Step(9, 0, win)
		Wins("b", "a")
		if other, otherDo, otherE := Step(state, event, win); next != other || !slices.Equal(do, otherDo) || e != otherE {
			t.Errorf("Step(%d, %d, %t): %d, %v, %d, then %d, %v, %d", state, event, win, next, do, e, other, otherDo, otherE)
		}
	})
}

// TestExample is the first example of the chapter. The second one stands in TestWins.
func TestExample(t *testing.T) {
	text := `
		Start: WaitAck Call
		Ack: WaitWord SendHello
	`
	state := walk(t, Shut, text)
	walk(t, state, `TheirCall, win: Theirs AcceptThem, BreakMine, AnswerThem`)
	walk(t, state, `TheirCall, not win: Returns AcceptThem`)
	for _, names := range [][2]string{{"b.x", "a.y"}, {"a.y", "b.x"}} {
		for _, d := range outcomes(t, duel{names: names}, calls, true) {
			winner := slices.Index(names[:], "b.x")
			if d.state[winner] != Theirs || d.state[1-winner] != Mine {
				t.Errorf("%v: %v", names, d.state)
			}
		}
	}
}

// TestBackToShut goes from each state back to Shut by each way there is, and calls from there.
func TestBackToShut(t *testing.T) {
	for _, c := range []struct {
		state int
		text  string
	}{
		{WaitAck, `Nack: Shut Clean`},
		{WaitAck, `Timeout: Shut Clean`},
		{WaitWord, `MyBreak: Shut Clean`},
		{WaitWord, `Timeout: Shut BreakMine, Clean`},
		{Electing, `Timeout: Shut BreakMine, BreakTheirs, Clean`},
		{Electing, `
			TheirBreak: WaitAck BreakTheirs
			Nack: Shut Clean`},
		{Electing, `
			Nack: Theirs AnswerThem
			TheirBreak: Shut Clean`},
		{Electing, `
			TheirCall: Electing RejectThem
			Ack, win: Theirs SendHello, BreakMine, AnswerThem
			TheirLeave: Shut AnswerLeave, BreakTheirs, Clean`},
		{Returns, `Timeout: Shut BreakMine, BreakTheirs, Clean`},
		{Returns, `
			MyBreak: Theirs AnswerThem
			TheirBreak: Shut Clean`},
		{Returns, `
			TheirBreak: WaitWord BreakTheirs
			MyBreak: Shut Clean`},
		{Returns, `
			TheirCall: Returns RejectThem
			MyWord: Mine BreakTheirs, Report
			MyBreak: Shut Clean`},
		{Mine, `MyBreak: Shut Clean`},
		{Mine, `MyLeave: Shut AnswerLeave, BreakMine, Clean`},
		{Mine, `
			TheirBreak: Mine
			TheirLeave: Mine
			Timeout: Mine
			Stop: Closing SendLeave
			Left: Shut BreakMine, BreakTheirs, Clean`},
		{Theirs, `TheirBreak: Shut Clean`},
		{Theirs, `TheirLeave: Shut AnswerLeave, BreakTheirs, Clean`},
		{Theirs, `
			MyBreak: Theirs
			MyLeave: Theirs
			Timeout: Theirs
			Stop: Closing SendLeave
			Timeout: Shut BreakMine, BreakTheirs, Clean`},
		{Closing, `Left: Shut BreakMine, BreakTheirs, Clean`},
		{Closing, `Timeout: Shut BreakMine, BreakTheirs, Clean`},
		{Closing, `MyBreak: Shut Clean`},
		{Closing, `
			Stop: Closing
			TheirCall: Closing RejectThem
			TheirBreak: Shut Clean`},
		{Shut, `Left: Shut`},
	} {
		state := walk(t, c.state, c.text)
		if state != Shut {
			t.Fatalf("%s: %d", c.text, state)
		}
		walk(t, state, `
			Stop: Shut
			Start: WaitAck Call
			Start: WaitAck
			Ack: WaitWord SendHello
			MyWord: Mine Report
			Start: Mine
		`)
		walk(t, state, `
			TheirCall: Theirs AcceptThem, AnswerThem
			Start: Theirs
		`)
	}
}

// TestReach: from each state there is a way to each other one.
func TestReach(t *testing.T) {
	for first := range states {
		found := []int{first}
		for i := 0; i < len(found); i++ {
			for event := 1; event <= events; event++ {
				for _, win := range []bool{false, true} {
					next, _, _ := Step(found[i], event, win)
					if !slices.Contains(found, next) {
						found = append(found, next)
					}
				}
			}
		}
		if len(found) != states {
			t.Errorf("from %s: %v", stateNames[first], found)
		}
	}
}

// TestLives makes steps at random: of a state comes a state, whatever happens.
func TestLives(t *testing.T) {
	list := rows(t)
	r := rand.New(rand.NewSource(20))
	for range 50 {
		state := Shut
		for range 200 {
			state, _, _ = steps(t, list, state, 1+r.Intn(events), r.Intn(2) == 1)
		}
	}
}

// FuzzAnyArguments holds Step against the table, and Wins against a plain comparison, for whatever is given.
func FuzzAnyArguments(f *testing.F) {
	f.Add(0, 1, false, "B.x", "a.y")
	f.Add(2, 2, true, "ab", "AB")
	f.Add(3, 3, false, "abc", "ab")
	f.Add(8, 13, true, "", "\xff")
	f.Add(math.MinInt, math.MaxInt, false, "[", "A")
	list := rows(f)
	f.Fuzz(func(t *testing.T, state, event int, win bool, mine, theirs string) {
		steps(t, list, state, event, win)
		wins(t, mine, theirs)
	})
}
