package watch

import (
	"math"
	"math/rand"
	"strconv"
	"strings"
	"testing"

	"trunkline/api"
)

// table is the chapter's table, as it stands there.
const table = `
| Initial | Opened | Okay; Pending false; Wind |
| Initial | Alarm | Try, Wind |
| Okay | Answer | Pending false; Wind |
| Okay | Other | Wind |
| Okay | Alarm, not Pending | Pending true; Ask, Wind |
| Okay | Alarm, Pending | Suspect; Fail, Wind |
| Okay | Broken | Gone; Pending false; Fail, Wind |
| Suspect | Answer | Okay; Pending false; Back, Wind |
| Suspect | Other | Okay; Back, Wind |
| Suspect | Alarm | Gone; Pending false; Close, Wind |
| Suspect | Broken | Gone; Pending false; Wind |
| Gone | Opened | Reopen; Seen 0; Pending true; Ask, Wind |
| Gone | Alarm | Try, Wind |
| Reopen | Answer, Seen below 2 | Pending false; Seen increased by 1 |
| Reopen | Answer, Seen 2 or 3 | Okay; Pending false; Seen 0; Back, Wind |
| Reopen | Alarm, not Pending | Pending true; Ask, Wind |
| Reopen | Alarm, Pending, Seen 0 or more | Seen -1; Wind |
| Reopen | Alarm, Pending, Seen -1 | Gone; Pending false; Seen 0; Close, Wind |
| Reopen | Broken | Gone; Pending false; Seen 0; Wind |
`

var (
	stateNames = []string{"Initial", "Okay", "Suspect", "Gone", "Reopen"}     // from 0 on
	eventNames = []string{"", "Opened", "Broken", "Answer", "Other", "Alarm"} // from 1 on
)

// index returns where a text stands in a list, or -1.
func index(list []string, text string) int {
	for i, s := range list {
		if s == text {
			return i
		}
	}
	return -1
}

// rows returns the rows of the table, as three texts each.
func rows() [][]string {
	var list [][]string
	for line := range strings.Lines(strings.TrimSpace(table)) {
		cells := strings.Split(strings.Trim(strings.TrimSpace(line), "|"), "|")
		for i := range cells {
			cells[i] = strings.TrimSpace(cells[i])
		}
		list = append(list, cells)
	}
	return list
}

// suits reports whether a row's words on the event are true of w and event.
func suits(t testing.TB, words string, w Watch, event int) bool {
	t.Helper()
	for i, s := range strings.Split(words, ", ") {
		ok := false
		switch s {
		case "Pending":
			ok = w.Pending
		case "not Pending":
			ok = !w.Pending
		case "Seen below 2":
			ok = w.Seen == -1 || w.Seen == 0 || w.Seen == 1
		case "Seen 2 or 3":
			ok = w.Seen == 2 || w.Seen == 3
		case "Seen 0 or more":
			ok = w.Seen == 0 || w.Seen == 1 || w.Seen == 2 || w.Seen == 3
		case "Seen -1":
			ok = w.Seen == -1
		default:
			n := index(eventNames, s)
			if i != 0 || n < 1 {
				t.Fatalf("no such words on an event: %s", s)
			}
			ok = n == event
		}
		if !ok {
			return false
		}
	}
	return true
}

// actions returns what a list of names says.
func actions(t testing.TB, list string) Do {
	t.Helper()
	var do Do
	fields := map[string]*bool{"Ask": &do.Ask, "Fail": &do.Fail, "Back": &do.Back, "Close": &do.Close, "Try": &do.Try, "Wind": &do.Wind}
	for _, s := range strings.Split(list, ", ") {
		if list == "" {
			break
		}
		if fields[s] == nil || *fields[s] {
			t.Fatalf("no such actions: %s", list)
		}
		*fields[s] = true
	}
	return do
}

// turned returns what a row's words on the new state make of w, and the actions.
func turned(t testing.TB, words string, w Watch) (Watch, Do) {
	t.Helper()
	var do Do
	for _, s := range strings.Split(words, "; ") {
		switch n := index(stateNames, s); {
		case n >= 0:
			w.State = n
		case s == "Pending true":
			w.Pending = true
		case s == "Pending false":
			w.Pending = false
		case s == "Seen 0":
			w.Seen = 0
		case s == "Seen -1":
			w.Seen = -1
		case s == "Seen increased by 1":
			w.Seen++
		default:
			do = actions(t, s)
		}
	}
	return w, do
}

// byTable returns what the table says, and the row that says it, or -1 if none does.
func byTable(t testing.TB, w Watch, event int) (Watch, Do, int) {
	t.Helper()
	found := -1
	next, do := w, Do{}
	for i, row := range rows() {
		if row[0] != stateNames[w.State] || !suits(t, row[1], w, event) {
			continue
		}
		if found >= 0 {
			t.Fatalf("two rows for %+v and %s", w, eventNames[event])
		}
		found = i
		next, do = turned(t, row[2], w)
	}
	return next, do, found
}

// allowed reports whether the chapter lets there be such a watch and such an event.
func allowed(w Watch, event int) bool {
	return w.State >= 0 && w.State <= 4 && w.Seen >= -1 && w.Seen <= 3 && event >= 1 && event <= 5
}

// steps holds Step against the table, and returns what it answers.
func steps(t testing.TB, w Watch, event int) (Watch, Do, api.Errno) {
	t.Helper()
	given := w
	next, do, e := Step(w, event)
	if w != given {
		t.Fatalf("Step changes what it is given: %+v, now %+v", given, w)
	}
	if !allowed(w, event) {
		if next != (Watch{}) || do != (Do{}) || e != api.ErrArg {
			t.Fatalf("Step(%+v, %d): %+v, %+v, %d, want ErrArg and nothing else", w, event, next, do, e)
		}
		return next, do, e
	}
	want, wantDo, _ := byTable(t, w, event)
	if next != want || do != wantDo || e != api.OK {
		t.Fatalf("Step(%+v, %s): %+v, %+v, %d, want %+v, %+v", w, eventNames[event], next, do, e, want, wantDo)
	}
	if !allowed(next, event) {
		t.Fatalf("Step(%+v, %s): %+v, which may not be", w, eventNames[event], next)
	}
	return next, do, e
}

// watches calls f with every watch that may be.
func watches(f func(w Watch)) {
	for state := range 5 {
		for seen := -1; seen <= 3; seen++ {
			f(Watch{State: state, Seen: seen})
			f(Watch{State: state, Pending: true, Seen: seen})
		}
	}
}

// walk makes the steps that a text names, one a line: an event, and behind a colon the state, Pending or not, Seen and the actions that are wanted then.
func walk(t *testing.T, w Watch, text string) Watch {
	t.Helper()
	for line := range strings.Lines(strings.TrimSpace(text)) {
		name, rest, _ := strings.Cut(strings.TrimSpace(line), ": ")
		words := strings.SplitN(rest, " ", 4)
		seen, err := strconv.Atoi(words[2])
		if err != nil || index(eventNames, name) < 1 || index(stateNames, words[0]) < 0 {
			t.Fatalf("no such line: %s", line)
		}
		want := Watch{State: index(stateNames, words[0]), Pending: words[1] == "true", Seen: seen}
		list := ""
		if len(words) == 4 {
			list = words[3]
		}
		next, do, e := steps(t, w, index(eventNames, name))
		if next != want || do != actions(t, list) || e != api.OK {
			t.Fatalf("%s of %+v: %+v, %+v, %d", strings.TrimSpace(line), w, next, do, e)
		}
		w = next
	}
	return w
}

func TestNumbers(t *testing.T) {
	for i, n := range []int{Initial, Okay, Suspect, Gone, Reopen} {
		if n != i {
			t.Errorf("%s is %d", stateNames[i], n)
		}
	}
	for i, n := range []int{Opened, Broken, Answer, Other, Alarm} {
		if n != i+1 {
			t.Errorf("%s is %d", eventNames[i+1], n)
		}
	}
	if w := (Watch{}); w.State != Initial || w.Pending || w.Seen != 0 {
		t.Errorf("a new watch: %+v", w)
	}
}

// TestRows has every row of the table, written out with numbers, in watches whose other fields a row doesn't mention.
func TestRows(t *testing.T) {
	const yes, no = true, false
	for _, c := range []struct {
		name  string
		w     Watch
		event int
		want  Watch
		do    Do
	}{
		{"Initial, Opened", Watch{0, no, 0}, 1, Watch{1, no, 0}, Do{Wind: yes}},
		{"Initial, Opened, Pending", Watch{0, yes, -1}, 1, Watch{1, no, -1}, Do{Wind: yes}},
		{"Initial, Opened, Seen 3", Watch{0, yes, 3}, 1, Watch{1, no, 3}, Do{Wind: yes}},
		{"Initial, Alarm", Watch{0, no, 0}, 5, Watch{0, no, 0}, Do{Try: yes, Wind: yes}},
		{"Initial, Alarm, Pending", Watch{0, yes, 2}, 5, Watch{0, yes, 2}, Do{Try: yes, Wind: yes}},
		{"Okay, Answer", Watch{1, yes, 0}, 3, Watch{1, no, 0}, Do{Wind: yes}},
		{"Okay, Answer, not Pending", Watch{1, no, 3}, 3, Watch{1, no, 3}, Do{Wind: yes}},
		{"Okay, Answer, Seen -1", Watch{1, yes, -1}, 3, Watch{1, no, -1}, Do{Wind: yes}},
		{"Okay, Other", Watch{1, no, 0}, 4, Watch{1, no, 0}, Do{Wind: yes}},
		{"Okay, Other, Pending", Watch{1, yes, 1}, 4, Watch{1, yes, 1}, Do{Wind: yes}},
		{"Okay, Alarm, not Pending", Watch{1, no, 0}, 5, Watch{1, yes, 0}, Do{Ask: yes, Wind: yes}},
		{"Okay, Alarm, not Pending, Seen 2", Watch{1, no, 2}, 5, Watch{1, yes, 2}, Do{Ask: yes, Wind: yes}},
		{"Okay, Alarm, Pending", Watch{1, yes, 0}, 5, Watch{2, yes, 0}, Do{Fail: yes, Wind: yes}},
		{"Okay, Alarm, Pending, Seen -1", Watch{1, yes, -1}, 5, Watch{2, yes, -1}, Do{Fail: yes, Wind: yes}},
		{"Okay, Broken", Watch{1, no, 0}, 2, Watch{3, no, 0}, Do{Fail: yes, Wind: yes}},
		{"Okay, Broken, Pending", Watch{1, yes, 3}, 2, Watch{3, no, 3}, Do{Fail: yes, Wind: yes}},
		{"Suspect, Answer", Watch{2, yes, 0}, 3, Watch{1, no, 0}, Do{Back: yes, Wind: yes}},
		{"Suspect, Answer, Seen 2", Watch{2, no, 2}, 3, Watch{1, no, 2}, Do{Back: yes, Wind: yes}},
		{"Suspect, Other", Watch{2, yes, 0}, 4, Watch{1, yes, 0}, Do{Back: yes, Wind: yes}},
		{"Suspect, Other, not Pending", Watch{2, no, -1}, 4, Watch{1, no, -1}, Do{Back: yes, Wind: yes}},
		{"Suspect, Alarm", Watch{2, yes, 0}, 5, Watch{3, no, 0}, Do{Close: yes, Wind: yes}},
		{"Suspect, Alarm, not Pending", Watch{2, no, 3}, 5, Watch{3, no, 3}, Do{Close: yes, Wind: yes}},
		{"Suspect, Broken", Watch{2, yes, 0}, 2, Watch{3, no, 0}, Do{Wind: yes}},
		{"Suspect, Broken, not Pending", Watch{2, no, 1}, 2, Watch{3, no, 1}, Do{Wind: yes}},
		{"Gone, Opened", Watch{3, no, 0}, 1, Watch{4, yes, 0}, Do{Ask: yes, Wind: yes}},
		{"Gone, Opened, Seen 3", Watch{3, no, 3}, 1, Watch{4, yes, 0}, Do{Ask: yes, Wind: yes}},
		{"Gone, Opened, Seen -1", Watch{3, yes, -1}, 1, Watch{4, yes, 0}, Do{Ask: yes, Wind: yes}},
		{"Gone, Alarm", Watch{3, no, 0}, 5, Watch{3, no, 0}, Do{Try: yes, Wind: yes}},
		{"Gone, Alarm, Pending", Watch{3, yes, 1}, 5, Watch{3, yes, 1}, Do{Try: yes, Wind: yes}},
		{"Reopen, Answer, Seen -1", Watch{4, yes, -1}, 3, Watch{4, no, 0}, Do{}},
		{"Reopen, Answer, Seen 0", Watch{4, yes, 0}, 3, Watch{4, no, 1}, Do{}},
		{"Reopen, Answer, Seen 1", Watch{4, yes, 1}, 3, Watch{4, no, 2}, Do{}},
		{"Reopen, Answer, Seen 2", Watch{4, yes, 2}, 3, Watch{1, no, 0}, Do{Back: yes, Wind: yes}},
		{"Reopen, Answer, Seen 3", Watch{4, yes, 3}, 3, Watch{1, no, 0}, Do{Back: yes, Wind: yes}},
		{"Reopen, Answer, Seen -1, not Pending", Watch{4, no, -1}, 3, Watch{4, no, 0}, Do{}},
		{"Reopen, Answer, Seen 0, not Pending", Watch{4, no, 0}, 3, Watch{4, no, 1}, Do{}},
		{"Reopen, Answer, Seen 1, not Pending", Watch{4, no, 1}, 3, Watch{4, no, 2}, Do{}},
		{"Reopen, Answer, Seen 2, not Pending", Watch{4, no, 2}, 3, Watch{1, no, 0}, Do{Back: yes, Wind: yes}},
		{"Reopen, Answer, Seen 3, not Pending", Watch{4, no, 3}, 3, Watch{1, no, 0}, Do{Back: yes, Wind: yes}},
		{"Reopen, Alarm, not Pending, Seen -1", Watch{4, no, -1}, 5, Watch{4, yes, -1}, Do{Ask: yes, Wind: yes}},
		{"Reopen, Alarm, not Pending, Seen 0", Watch{4, no, 0}, 5, Watch{4, yes, 0}, Do{Ask: yes, Wind: yes}},
		{"Reopen, Alarm, not Pending, Seen 3", Watch{4, no, 3}, 5, Watch{4, yes, 3}, Do{Ask: yes, Wind: yes}},
		{"Reopen, Alarm, Pending, Seen 0", Watch{4, yes, 0}, 5, Watch{4, yes, -1}, Do{Wind: yes}},
		{"Reopen, Alarm, Pending, Seen 1", Watch{4, yes, 1}, 5, Watch{4, yes, -1}, Do{Wind: yes}},
		{"Reopen, Alarm, Pending, Seen 3", Watch{4, yes, 3}, 5, Watch{4, yes, -1}, Do{Wind: yes}},
		{"Reopen, Alarm, Pending, Seen -1", Watch{4, yes, -1}, 5, Watch{3, no, 0}, Do{Close: yes, Wind: yes}},
		{"Reopen, Broken", Watch{4, no, 0}, 2, Watch{3, no, 0}, Do{Wind: yes}},
		{"Reopen, Broken, Pending, Seen 2", Watch{4, yes, 2}, 2, Watch{3, no, 0}, Do{Wind: yes}},
		{"Reopen, Broken, Pending, Seen -1", Watch{4, yes, -1}, 2, Watch{3, no, 0}, Do{Wind: yes}},
	} {
		if w, do, e := steps(t, c.w, c.event); w != c.want || do != c.do || e != api.OK {
			t.Errorf("%s: %+v, %+v, %d, want %+v, %+v", c.name, w, do, e, c.want, c.do)
		}
	}
}

// TestOutsideTheTable has every combination that isn't in the table: nothing changes then, and nothing is to be done.
func TestOutsideTheTable(t *testing.T) {
	n := 0
	for _, c := range []struct{ state, event int }{
		{Initial, Broken}, {Initial, Answer}, {Initial, Other},
		{Okay, Opened},
		{Suspect, Opened},
		{Gone, Broken}, {Gone, Answer}, {Gone, Other},
		{Reopen, Opened}, {Reopen, Other},
	} {
		watches(func(w Watch) {
			if w.State != c.state {
				return
			}
			n++
			if next, do, e := Step(w, c.event); next != w || do != (Do{}) || e != api.OK {
				t.Errorf("Step(%+v, %s): %+v, %+v, %d, want nothing", w, eventNames[c.event], next, do, e)
			}
			if _, _, row := byTable(t, w, c.event); row >= 0 {
				t.Errorf("%+v, %s is in the table", w, eventNames[c.event])
			}
		})
	}
	if n != 10*10 {
		t.Errorf("%d combinations", n)
	}
}

// TestEveryCombination holds all that may be against the table, each row of which comes up.
func TestEveryCombination(t *testing.T) {
	used := make([]int, len(rows()))
	inside, outside := 0, 0
	watches(func(w Watch) {
		for event := 1; event <= 5; event++ {
			steps(t, w, event)
			if _, _, row := byTable(t, w, event); row >= 0 {
				used[row]++
				inside++
			} else {
				outside++
			}
		}
	})
	if len(used) != 19 || inside != 150 || outside != 100 {
		t.Errorf("%d rows, %d combinations in the table, %d outside it", len(used), inside, outside)
	}
	for i, n := range used {
		if n == 0 {
			t.Errorf("row %d of the table never came up", i)
		}
	}
}

// TestWrongArguments has numbers that may not be, alone and together, beside the ones next to them that may.
func TestWrongArguments(t *testing.T) {
	states := []int{math.MinInt, -256, -5, -1, 0, 1, 2, 3, 4, 5, 6, 256, 1 << 32, 1<<32 + 1, math.MaxInt}
	seens := []int{math.MinInt, -1 << 32, -256, -3, -2, -1, 0, 1, 2, 3, 4, 5, 255, 1 << 32, math.MaxInt}
	events := []int{math.MinInt, -256, -5, -1, 0, 1, 2, 3, 4, 5, 6, 7, 257, 1<<32 + 1, math.MaxInt}
	right, wrong := 0, 0
	for _, state := range states {
		for _, seen := range seens {
			for _, event := range events {
				for _, pending := range []bool{false, true} {
					_, _, e := steps(t, Watch{State: state, Pending: pending, Seen: seen}, event)
					if e == api.OK {
						right++
					} else {
						wrong++
					}
				}
			}
		}
	}
	if right != 5*5*5*2 || wrong != 15*15*15*2-right {
		t.Errorf("%d accepted, %d not", right, wrong)
	}
}

func TestEdges(t *testing.T) {
	for _, c := range []struct {
		name        string
		state, seen int
		event       int
		want        api.Errno
	}{
		{"State -1", -1, 0, 1, api.ErrArg},
		{"State 0", 0, 0, 1, api.OK},
		{"State 4", 4, 0, 1, api.OK},
		{"State 5", 5, 0, 1, api.ErrArg},
		{"Seen -2", 0, -2, 1, api.ErrArg},
		{"Seen -1", 0, -1, 1, api.OK},
		{"Seen 3", 0, 3, 1, api.OK},
		{"Seen 4", 0, 4, 1, api.ErrArg},
		{"Seen -2 in Reopen", 4, -2, 3, api.ErrArg},
		{"Seen -1 in Reopen", 4, -1, 3, api.OK},
		{"Seen 3 in Reopen", 4, 3, 3, api.OK},
		{"Seen 4 in Reopen", 4, 4, 3, api.ErrArg},
		{"event 0", 0, 0, 0, api.ErrArg},
		{"event 1", 0, 0, 1, api.OK},
		{"event 5", 0, 0, 5, api.OK},
		{"event 6", 0, 0, 6, api.ErrArg},
		{"event 0 in Reopen", 4, 0, 0, api.ErrArg},
		{"event 6 in Reopen", 4, 0, 6, api.ErrArg},
		{"State -1, Seen -2", -1, -2, 1, api.ErrArg},
		{"State 5, Seen 4", 5, 4, 1, api.ErrArg},
		{"State -1, event 0", -1, 0, 0, api.ErrArg},
		{"State 5, event 6", 5, 0, 6, api.ErrArg},
		{"Seen -2, event 0", 0, -2, 0, api.ErrArg},
		{"Seen 4, event 6", 4, 4, 6, api.ErrArg},
		{"all three", 5, 4, 6, api.ErrArg},
		{"all three, below", -1, -2, 0, api.ErrArg},
	} {
		for _, pending := range []bool{false, true} {
			w, do, e := steps(t, Watch{State: c.state, Pending: pending, Seen: c.seen}, c.event)
			if e != c.want {
				t.Errorf("%s: error %d, want %d", c.name, e, c.want)
			}
			if c.want != api.OK && (w != (Watch{}) || do != (Do{})) {
				t.Errorf("%s: %+v, %+v beside the error", c.name, w, do)
			}
		}
	}
}

// TestExample is the example of the chapter.
func TestExample(t *testing.T) {
	suspect := walk(t, Watch{State: Okay}, `
		Alarm: Okay true 0 Ask, Wind
		Alarm: Suspect true 0 Fail, Wind
	`)
	walk(t, suspect, `Answer: Okay false 0 Back, Wind`)
	walk(t, suspect, `Alarm: Gone false 0 Close, Wind`)
}

// TestAnswersInTime has a peer that always answers: it is asked again and again, and never suspected.
func TestAnswersInTime(t *testing.T) {
	w := walk(t, Watch{}, `Opened: Okay false 0 Wind`)
	for range 100 {
		w = walk(t, w, `
			Alarm: Okay true 0 Ask, Wind
			Answer: Okay false 0 Wind
			Other: Okay false 0 Wind
		`)
	}
}

// TestTalksButNeverAnswers has a peer that sends other messages alone: it is suspected at every second alarm, and trusted again, as its request stays Pending.
func TestTalksButNeverAnswers(t *testing.T) {
	w := walk(t, Watch{}, `
		Opened: Okay false 0 Wind
		Other: Okay false 0 Wind
		Alarm: Okay true 0 Ask, Wind
	`)
	for range 100 {
		w = walk(t, w, `
			Other: Okay true 0 Wind
			Alarm: Suspect true 0 Fail, Wind
			Opened: Suspect true 0
			Other: Okay true 0 Back, Wind
		`)
	}
}

// TestAnswersThreeTimes has a peer that was gone and is trusted again with its third answer.
func TestAnswersThreeTimes(t *testing.T) {
	back := `
		Opened: Reopen true 0 Ask, Wind
		Answer: Reopen false 1
		Alarm: Reopen true 1 Ask, Wind
		Answer: Reopen false 2
		Alarm: Reopen true 2 Ask, Wind
		Answer: Okay false 0 Back, Wind
		Alarm: Okay true 0 Ask, Wind
	`
	walk(t, Watch{State: Gone}, back)
	walk(t, Watch{State: Gone, Pending: true, Seen: 3}, back)
	walk(t, Watch{State: Gone, Seen: -1}, back)
	walk(t, Watch{State: Gone}, `
		Opened: Reopen true 0 Ask, Wind
		Answer: Reopen false 1
		Answer: Reopen false 2
		Answer: Okay false 0 Back, Wind
	`)
}

// TestAnswersThreeTimesWithOthers has other events in between: only an answer counts, and one that is late begins the count anew.
func TestAnswersThreeTimesWithOthers(t *testing.T) {
	walk(t, Watch{}, `
		Broken: Initial false 0
		Answer: Initial false 0
		Other: Initial false 0
		Alarm: Initial false 0 Try, Wind
		Opened: Okay false 0 Wind
		Broken: Gone false 0 Fail, Wind
		Broken: Gone false 0
		Answer: Gone false 0
		Other: Gone false 0
		Alarm: Gone false 0 Try, Wind
		Opened: Reopen true 0 Ask, Wind
		Other: Reopen true 0
		Opened: Reopen true 0
		Answer: Reopen false 1
		Other: Reopen false 1
		Opened: Reopen false 1
		Alarm: Reopen true 1 Ask, Wind
		Other: Reopen true 1
		Alarm: Reopen true -1 Wind
		Other: Reopen true -1
		Opened: Reopen true -1
		Answer: Reopen false 0
		Alarm: Reopen true 0 Ask, Wind
		Answer: Reopen false 1
		Other: Reopen false 1
		Answer: Reopen false 2
		Alarm: Reopen true 2 Ask, Wind
		Other: Reopen true 2
		Opened: Reopen true 2
		Answer: Okay false 0 Back, Wind
		Other: Okay false 0 Wind
	`)
	walk(t, Watch{State: Gone}, `
		Opened: Reopen true 0 Ask, Wind
		Answer: Reopen false 1
		Answer: Reopen false 2
		Broken: Gone false 0 Wind
		Opened: Reopen true 0 Ask, Wind
		Answer: Reopen false 1
		Answer: Reopen false 2
		Alarm: Reopen true 2 Ask, Wind
		Alarm: Reopen true -1 Wind
		Alarm: Gone false 0 Close, Wind
		Opened: Reopen true 0 Ask, Wind
		Answer: Reopen false 1
	`)
}

// TestNeverAnswers has a peer that says nothing, from each state on, until it is closed, and tried from then on.
func TestNeverAnswers(t *testing.T) {
	closed := []Watch{
		walk(t, Watch{State: Okay}, `
			Alarm: Okay true 0 Ask, Wind
			Alarm: Suspect true 0 Fail, Wind
			Alarm: Gone false 0 Close, Wind
		`),
		walk(t, Watch{State: Okay, Pending: true}, `
			Alarm: Suspect true 0 Fail, Wind
			Alarm: Gone false 0 Close, Wind
		`),
		walk(t, Watch{State: Suspect}, `Alarm: Gone false 0 Close, Wind`),
		walk(t, Watch{State: Suspect, Pending: true}, `Alarm: Gone false 0 Close, Wind`),
		walk(t, Watch{State: Reopen}, `
			Alarm: Reopen true 0 Ask, Wind
			Alarm: Reopen true -1 Wind
			Alarm: Gone false 0 Close, Wind
		`),
		walk(t, Watch{State: Reopen, Seen: -1}, `
			Alarm: Reopen true -1 Ask, Wind
			Alarm: Gone false 0 Close, Wind
		`),
		walk(t, Watch{State: Reopen, Pending: true, Seen: 2}, `
			Alarm: Reopen true -1 Wind
			Alarm: Gone false 0 Close, Wind
		`),
		walk(t, Watch{}, `
			Alarm: Initial false 0 Try, Wind
			Alarm: Initial false 0 Try, Wind
			Opened: Okay false 0 Wind
			Alarm: Okay true 0 Ask, Wind
			Alarm: Suspect true 0 Fail, Wind
			Alarm: Gone false 0 Close, Wind
		`),
		walk(t, Watch{State: Gone}, `
			Alarm: Gone false 0 Try, Wind
			Opened: Reopen true 0 Ask, Wind
			Alarm: Reopen true -1 Wind
			Alarm: Gone false 0 Close, Wind
		`),
	}
	for _, w := range closed {
		for range 100 {
			w = walk(t, w, `Alarm: Gone false 0 Try, Wind`)
		}
	}
}

// TestLives makes steps at random: of a watch that may be comes one that may be, whatever happens.
func TestLives(t *testing.T) {
	r := rand.New(rand.NewSource(19))
	for range 50 {
		w := Watch{}
		for range 200 {
			w, _, _ = steps(t, w, 1+r.Intn(5))
		}
	}
}

// TestTwiceTheSame: nothing is kept between calls.
func TestTwiceTheSame(t *testing.T) {
	watches(func(w Watch) {
		for event := range 7 {
			one, do, e := Step(w, event)
			Step(Watch{State: Reopen, Pending: true, Seen: -1}, Alarm)
			Step(Watch{State: 9}, 9)
			if other, otherDo, otherE := Step(w, event); one != other || do != otherDo || e != otherE {
				t.Errorf("Step(%+v, %d): %+v, %+v, %d, then %+v, %+v, %d", w, event, one, do, e, other, otherDo, otherE)
			}
		}
	})
}

// FuzzAnyArguments holds Step against the table, for whatever is given.
func FuzzAnyArguments(f *testing.F) {
	f.Add(0, false, 0, 1)
	f.Add(4, true, -1, 5)
	f.Add(4, true, 3, 3)
	f.Add(5, false, 4, 6)
	f.Add(math.MinInt, true, math.MaxInt, math.MinInt)
	f.Fuzz(func(t *testing.T, state int, pending bool, seen, event int) {
		steps(t, Watch{State: state, Pending: pending, Seen: seen}, event)
	})
}
