package wheel

import (
	"math"
	"math/rand"
	"slices"
	"testing"

	"trunkline/api"
)

// extremes: ids and times that no caller would think of.
var extremes = []int{math.MinInt, math.MinInt + 1, -1 << 60, math.MinInt32, -2, -1, 0, 1, math.MaxInt32, api.MaxTime - 1, api.MaxTime, api.MaxTime + 1, 1 << 60, math.MaxInt - 1, math.MaxInt}

// model does what the chapter asks in the plainest way: it keeps the alarms in a list and looks through all of them.
type model struct{ timers []api.Timer }

func (m *model) find(id int) int {
	return slices.IndexFunc(m.timers, func(t api.Timer) bool { return t.ID == id })
}

func (m *model) set(id, at int) api.Errno {
	if at < 0 || at > 1<<40 {
		return api.ErrArg
	}
	if i := m.find(id); i >= 0 {
		m.timers[i].At = at
		return api.OK
	}
	if len(m.timers) == 4096 {
		return api.ErrFull
	}
	m.timers = append(m.timers, api.Timer{ID: id, At: at})
	return api.OK
}

func (m *model) cancel(id int) api.Errno {
	i := m.find(id)
	if i < 0 {
		return api.ErrNone
	}
	m.timers = slices.Delete(m.timers, i, i+1)
	return api.OK
}

// next returns the place of the first alarm, or -1.
func (m *model) next() int {
	first := -1
	for i, t := range m.timers {
		if first < 0 || t.At < m.timers[first].At || t.At == m.timers[first].At && t.ID < m.timers[first].ID {
			first = i
		}
	}
	return first
}

func (m *model) due(now int) []api.Timer {
	var r []api.Timer
	for i := m.next(); i >= 0 && m.timers[i].At <= now; i = m.next() {
		r = append(r, m.timers[i])
		m.timers = slices.Delete(m.timers, i, i+1)
	}
	return r
}

func (m *model) list() []api.Timer {
	other := &model{slices.Clone(m.timers)}
	return other.due(1 << 40)
}

// with returns a Wheel of these alarms.
func with(t *testing.T, timers ...api.Timer) *Wheel {
	t.Helper()
	w := New()
	for _, a := range timers {
		if e := w.Set(a.ID, a.At); e != api.OK {
			t.Fatalf("Set(%d, %d) = %d", a.ID, a.At, e)
		}
	}
	return w
}

// full returns a Wheel with room for none: the ids are 0 to 4095, their times 4096 down to 1.
func full(t *testing.T) *Wheel {
	t.Helper()
	w := New()
	for id := range 4096 {
		if e := w.Set(id, 4096-id); e != api.OK {
			t.Fatalf("Set of alarm %d = %d", id, e)
		}
	}
	return w
}

// holds checks that the Wheel has these alarms and no others, in this order.
func holds(t *testing.T, w *Wheel, want ...api.Timer) {
	t.Helper()
	if got := w.List(); !slices.Equal(got, want) {
		t.Errorf("List() = %v, want %v", got, want)
	}
	first, ok := w.Next()
	if len(want) == 0 && (ok || first != (api.Timer{})) || len(want) > 0 && (!ok || first != want[0]) {
		t.Errorf("Next() = %v, %v, want the first of %v", first, ok, want)
	}
}

func TestExample(t *testing.T) {
	w := with(t, api.Timer{ID: 3, At: 9}, api.Timer{ID: 1, At: 9}, api.Timer{ID: 2, At: 4})
	if got := w.Due(8); !slices.Equal(got, []api.Timer{{ID: 2, At: 4}}) {
		t.Errorf("Due(8) = %v", got)
	}
	if e := w.Set(3, 10); e != api.OK {
		t.Errorf("Set(3, 10) = %d", e)
	}
	if got := w.Due(10); !slices.Equal(got, []api.Timer{{ID: 1, At: 9}, {ID: 3, At: 10}}) {
		t.Errorf("Due(10) = %v", got)
	}
	if e := w.Set(1, -1); e != api.ErrArg {
		t.Errorf("Set(1, -1) = %d", e)
	}
	holds(t, w)
}

func TestNewIsEmpty(t *testing.T) {
	for name, w := range map[string]*Wheel{"New": New(), "the zero value": new(Wheel)} {
		holds(t, w)
		if got := w.Due(math.MaxInt); len(got) != 0 {
			t.Errorf("%s: Due = %v", name, got)
		}
		for _, id := range extremes {
			if e := w.Cancel(id); e != api.ErrNone {
				t.Errorf("%s: Cancel(%d) = %d", name, id, e)
			}
		}
		if e := w.Set(7, 5); e != api.OK {
			t.Errorf("%s: Set = %d", name, e)
		}
		holds(t, w, api.Timer{ID: 7, At: 5})
	}
}

// TestWheelsAreApart: what is done to one Wheel shows in no other one.
func TestWheelsAreApart(t *testing.T) {
	a, b := New(), New()
	a.Set(1, 5)
	holds(t, b)
	b.Set(1, 6)
	b.Set(2, 1)
	holds(t, a, api.Timer{ID: 1, At: 5})
	a.Cancel(1)
	holds(t, b, api.Timer{ID: 2, At: 1}, api.Timer{ID: 1, At: 6})
}

func TestSetOfTimes(t *testing.T) {
	for _, at := range append([]int{2, 3, 1000}, extremes...) {
		want := api.ErrArg
		if 0 <= at && at <= 1<<40 {
			want = api.OK
		}
		w := New()
		if e := w.Set(1, at); e != want {
			t.Errorf("Set(1, %d) = %d, want %d", at, e, want)
		}
		if want == api.OK {
			holds(t, w, api.Timer{ID: 1, At: at})
		} else {
			holds(t, w)
		}
		w = with(t, api.Timer{ID: 1, At: 5}, api.Timer{ID: 2, At: 4})
		if e := w.Set(1, at); e != want {
			t.Errorf("Set(1, %d) of an alarm that is there = %d, want %d", at, e, want)
		}
		if want != api.OK {
			holds(t, w, api.Timer{ID: 2, At: 4}, api.Timer{ID: 1, At: 5})
		} else if got := w.List(); len(got) != 2 || !slices.Contains(got, api.Timer{ID: 1, At: at}) {
			t.Errorf("after Set(1, %d): %v", at, got)
		}
	}
}

// TestAnyID: an alarm may have any number, and the order by id is that of signed numbers.
func TestAnyID(t *testing.T) {
	w := New()
	var want []api.Timer
	for _, id := range extremes {
		want = append(want, api.Timer{ID: id, At: 3})
	}
	for _, i := range rand.New(rand.NewSource(1)).Perm(len(extremes)) {
		if e := w.Set(extremes[i], 3); e != api.OK {
			t.Errorf("Set(%d, 3) = %d", extremes[i], e)
		}
	}
	holds(t, w, want...)
	for _, id := range extremes {
		if e := w.Cancel(id); e != api.OK {
			t.Errorf("Cancel(%d) = %d", id, e)
		}
		if e := w.Cancel(id); e != api.ErrNone {
			t.Errorf("Cancel(%d) again = %d", id, e)
		}
	}
	holds(t, w)
}

func TestSetMoves(t *testing.T) {
	w := with(t, api.Timer{ID: 1, At: 10}, api.Timer{ID: 2, At: 20}, api.Timer{ID: 3, At: 30})
	moves := []struct {
		id, at int
		want   []api.Timer
	}{
		{3, 5, []api.Timer{{ID: 3, At: 5}, {ID: 1, At: 10}, {ID: 2, At: 20}}},             // the last one to the front
		{3, 40, []api.Timer{{ID: 1, At: 10}, {ID: 2, At: 20}, {ID: 3, At: 40}}},           // the first one to the end
		{2, 20, []api.Timer{{ID: 1, At: 10}, {ID: 2, At: 20}, {ID: 3, At: 40}}},           // nowhere
		{2, 40, []api.Timer{{ID: 1, At: 10}, {ID: 2, At: 40}, {ID: 3, At: 40}}},           // to another one's time
		{1, 40, []api.Timer{{ID: 1, At: 40}, {ID: 2, At: 40}, {ID: 3, At: 40}}},           // all at one time
		{2, 0, []api.Timer{{ID: 2, At: 0}, {ID: 1, At: 40}, {ID: 3, At: 40}}},             // to the first time
		{2, 1 << 40, []api.Timer{{ID: 1, At: 40}, {ID: 3, At: 40}, {ID: 2, At: 1 << 40}}}, // to the last time
	}
	for _, m := range moves {
		if e := w.Set(m.id, m.at); e != api.OK {
			t.Errorf("Set(%d, %d) = %d", m.id, m.at, e)
		}
		holds(t, w, m.want...)
	}
	if got := w.Due(40); !slices.Equal(got, []api.Timer{{ID: 1, At: 40}, {ID: 3, At: 40}}) {
		t.Errorf("Due(40) = %v: an alarm counts at the time that it was moved to alone", got)
	}
}

func TestFull(t *testing.T) {
	w := full(t)
	before := w.List()
	if len(before) != 4096 {
		t.Fatalf("there are %d alarms", len(before))
	}
	for _, id := range []int{4096, -1, math.MaxInt, math.MinInt} {
		for _, at := range []int{0, 1, 5000, 1 << 40} {
			if e := w.Set(id, at); e != api.ErrFull {
				t.Errorf("Set(%d, %d) of a full Wheel = %d", id, at, e)
			}
		}
		for _, at := range []int{-1, 1<<40 + 1} { // a wrong time is found first
			if e := w.Set(id, at); e != api.ErrArg {
				t.Errorf("Set(%d, %d) of a full Wheel = %d", id, at, e)
			}
		}
		if e := w.Cancel(id); e != api.ErrNone {
			t.Errorf("Cancel(%d) of one that there was no room for = %d", id, e)
		}
	}
	holds(t, w, before...)
	for _, id := range []int{0, 2048, 4095} { // to be moved an alarm needs no room
		if e := w.Set(id, 1<<40); e != api.OK {
			t.Errorf("Set(%d, ..) of a full Wheel = %d", id, e)
		}
	}
	if got := w.List(); len(got) != 4096 || !slices.Equal(got[4093:], []api.Timer{{ID: 0, At: 1 << 40}, {ID: 2048, At: 1 << 40}, {ID: 4095, At: 1 << 40}}) {
		t.Errorf("after they were moved: %d alarms, %v", len(got), got[4090:])
	}
}

// TestRoomComesBack: each alarm that is removed makes room for one other.
func TestRoomComesBack(t *testing.T) {
	w := full(t)
	ways := []struct {
		name   string
		remove func() int
	}{
		{"Cancel", func() int { w.Cancel(77); return 1 }},
		{"Due", func() int { return len(w.Due(3)) }},
	}
	id := 4096
	for _, way := range ways {
		room := way.remove()
		if room == 0 {
			t.Errorf("%s removed none", way.name)
		}
		for range room {
			if e := w.Set(id, 9); e != api.OK {
				t.Errorf("Set after %s = %d", way.name, e)
			}
			id++
		}
		if e := w.Set(id, 9); e != api.ErrFull {
			t.Errorf("Set after %s, with all room used = %d", way.name, e)
		}
	}
}

func TestCancel(t *testing.T) {
	all := []api.Timer{{ID: 5, At: 1}, {ID: 4, At: 2}, {ID: 6, At: 2}, {ID: 0, At: 7}, {ID: -3, At: 8}, {ID: 9, At: 8}, {ID: 1, At: 9}}
	for i, c := range all {
		w := with(t, all...)
		if e := w.Cancel(c.ID); e != api.OK {
			t.Errorf("Cancel(%d) = %d", c.ID, e)
		}
		rest := slices.Delete(slices.Clone(all), i, i+1)
		holds(t, w, rest...)
		if e := w.Cancel(c.ID); e != api.ErrNone {
			t.Errorf("Cancel(%d) again = %d", c.ID, e)
		}
		if e := w.Cancel(2); e != api.ErrNone {
			t.Errorf("Cancel of an alarm that never was = %d", e)
		}
		holds(t, w, rest...)
		if e := w.Set(c.ID, 3); e != api.OK {
			t.Errorf("Set(%d, 3) after Cancel = %d", c.ID, e)
		}
		if got := w.Due(1 << 40); len(got) != len(all) || !slices.Contains(got, api.Timer{ID: c.ID, At: 3}) {
			t.Errorf("Cancel(%d), Set(%d, 3), Due = %v", c.ID, c.ID, got)
		}
	}
}

// TestCancelAfterDue: what Due returned is there no more, and may be set again.
func TestCancelAfterDue(t *testing.T) {
	w := with(t, api.Timer{ID: 1, At: 4}, api.Timer{ID: 2, At: 5})
	w.Due(4)
	if e := w.Cancel(1); e != api.ErrNone {
		t.Errorf("Cancel of one that was due = %d", e)
	}
	holds(t, w, api.Timer{ID: 2, At: 5})
	if e := w.Set(1, 3); e != api.OK { // a time that has gone by is one like any other
		t.Errorf("Set = %d", e)
	}
	holds(t, w, api.Timer{ID: 1, At: 3}, api.Timer{ID: 2, At: 5})
}

func TestDue(t *testing.T) {
	all := []api.Timer{{ID: 8, At: 0}, {ID: -1, At: 5}, {ID: 2, At: 5}, {ID: 10, At: 5}, {ID: 1, At: 6}, {ID: 3, At: 1 << 40}}
	cases := []struct{ now, want int }{ // want: how many of them
		{math.MinInt, 0},
		{-1 << 60, 0},
		{-1, 0},
		{0, 1},
		{1, 1},
		{4, 1},
		{5, 4},
		{6, 5},
		{7, 5},
		{1<<40 - 1, 5},
		{1 << 40, 6},
		{1 << 60, 6},
		{math.MaxInt, 6},
	}
	for _, c := range cases {
		for _, i := range []int64{1, 2, 3} { // it doesn't matter which was set first
			w := New()
			for _, k := range rand.New(rand.NewSource(i)).Perm(len(all)) {
				w.Set(all[k].ID, all[k].At)
			}
			if got := w.Due(c.now); !slices.Equal(got, all[:c.want]) {
				t.Errorf("Due(%d) = %v, want %v", c.now, got, all[:c.want])
			}
			holds(t, w, all[c.want:]...)
			if got := w.Due(c.now); len(got) != 0 {
				t.Errorf("Due(%d) again = %v", c.now, got)
			}
			holds(t, w, all[c.want:]...)
		}
	}
}

// TestDueGoesBack: an earlier now than the last one is one like any other.
func TestDueGoesBack(t *testing.T) {
	w := with(t, api.Timer{ID: 1, At: 100})
	w.Due(50)
	w.Set(2, 20)
	w.Set(3, 40)
	if got := w.Due(30); !slices.Equal(got, []api.Timer{{ID: 2, At: 20}}) {
		t.Errorf("Due(30) = %v", got)
	}
	holds(t, w, api.Timer{ID: 3, At: 40}, api.Timer{ID: 1, At: 100})
}

// TestLookingChangesNothing: Next and List, called often, show what was there before.
func TestLookingChangesNothing(t *testing.T) {
	w := with(t, api.Timer{ID: 3, At: 9}, api.Timer{ID: 1, At: 9}, api.Timer{ID: 2, At: 4}, api.Timer{ID: 0, At: 12})
	for range 3 {
		holds(t, w, api.Timer{ID: 2, At: 4}, api.Timer{ID: 1, At: 9}, api.Timer{ID: 3, At: 9}, api.Timer{ID: 0, At: 12})
	}
	if e := w.Cancel(3); e != api.OK { // List sorted its own copy: the alarms are still found where they stand
		t.Errorf("Cancel(3) = %d", e)
	}
	holds(t, w, api.Timer{ID: 2, At: 4}, api.Timer{ID: 1, At: 9}, api.Timer{ID: 0, At: 12})
}

func TestNil(t *testing.T) {
	var w *Wheel
	for _, x := range extremes {
		if e := w.Set(1, x); e != api.ErrArg {
			t.Errorf("Set(1, %d) = %d", x, e)
		}
		if e := w.Set(x, 1); e != api.ErrArg {
			t.Errorf("Set(%d, 1) = %d", x, e)
		}
		if e := w.Cancel(x); e != api.ErrArg {
			t.Errorf("Cancel(%d) = %d", x, e)
		}
		if got := w.Due(x); got != nil {
			t.Errorf("Due(%d) = %v", x, got)
		}
	}
	if got, ok := w.Next(); ok || got != (api.Timer{}) {
		t.Errorf("Next() = %v, %v", got, ok)
	}
	if got := w.List(); got != nil {
		t.Errorf("List() = %v", got)
	}
}

// spoil overwrites a result, and what is behind its end.
func spoil(timers []api.Timer) {
	timers = timers[:cap(timers)]
	for i := range timers {
		timers[i] = api.Timer{ID: -9, At: -9}
	}
}

// TestResultsShareNoMemory: what is done to a result shows neither in the Wheel nor in another result.
func TestResultsShareNoMemory(t *testing.T) {
	for n := 1; n < 70; n++ {
		w := New()
		var want []api.Timer
		for i := range n {
			w.Set(i, 2*i)
			want = append(want, api.Timer{ID: i, At: 2 * i})
		}
		a, b := w.List(), w.List()
		spoil(a)
		if !slices.Equal(b, want) {
			t.Fatalf("one List shows in another: %v", b)
		}
		holds(t, w, want...)
		early := w.Due(n)
		kept, k := slices.Clone(early), len(early)
		spoil(w.List())
		spoil(b)
		if !slices.Equal(early, want[:k]) {
			t.Fatalf("a List shows in what was due: %v", early)
		}
		spoil(early)
		holds(t, w, want[k:]...)
		for _, x := range kept {
			w.Set(x.ID, x.At)
		}
		holds(t, w, want...)
		c := w.Due(math.MaxInt)
		for i := range n {
			w.Set(i+100, 1)
		}
		if !slices.Equal(c, want) {
			t.Fatalf("what is set shows in what was due: %v", c)
		}
	}
}

// TestErrorsChangeNothing: after a call that returned an error everything is as it was, where the alarms are found too.
func TestErrorsChangeNothing(t *testing.T) {
	w := full(t)
	before := w.List()
	for range 2 {
		w.Set(5, -1)
		w.Set(5, math.MinInt)
		w.Set(5, 1<<40+1)
		w.Set(4096, -1)
		w.Set(4096, 0)
		w.Cancel(4096)
		w.Cancel(-1)
		holds(t, w, before...)
	}
	for _, x := range before {
		if e := w.Cancel(x.ID); e != api.OK {
			t.Errorf("Cancel(%d) = %d", x.ID, e)
		}
	}
	holds(t, w)
}

// pair is a Wheel and the model of it, which are asked the same.
type pair struct {
	w *Wheel
	m model
}

// step does what three numbers say, and fails where the two differ.
func (p *pair) step(t *testing.T, kind, id, at int) {
	t.Helper()
	switch kind {
	case 0:
		if got, want := p.w.Cancel(id), p.m.cancel(id); got != want {
			t.Fatalf("Cancel(%d) = %d, want %d", id, got, want)
		}
	case 1:
		if got, want := p.w.Due(at), p.m.due(at); !slices.Equal(got, want) {
			t.Fatalf("Due(%d) = %v, want %v", at, got, want)
		}
	case 2:
		if got, want := p.w.List(), p.m.list(); !slices.Equal(got, want) {
			t.Fatalf("List() = %v, want %v", got, want)
		}
	default:
		if got, want := p.w.Set(id, at), p.m.set(id, at); got != want {
			t.Fatalf("Set(%d, %d) = %d, want %d", id, at, got, want)
		}
	}
	want := api.Timer{}
	i := p.m.next()
	if i >= 0 {
		want = p.m.timers[i]
	}
	if got, ok := p.w.Next(); got != want || ok != (i >= 0) {
		t.Fatalf("Next() = %v, %v, want %v", got, ok, want)
	}
}

// TestAnySteps: many steps, of few alarms and of many, at few times and at many.
func TestAnySteps(t *testing.T) {
	for _, ids := range []int{1, 2, 5, 30, 400} {
		for _, times := range []int{1, 3, 40, 1 << 40} {
			r := rand.New(rand.NewSource(int64(ids * times)))
			p := pair{w: New()}
			for range 2000 {
				kind, now := r.Intn(9), r.Intn(times)
				if kind == 1 {
					now = r.Intn(now + 1) // more often few than many
				}
				p.step(t, kind, r.Intn(ids)-ids/2, now)
			}
			p.step(t, 2, 0, 0)
			p.step(t, 1, 0, math.MaxInt)
			holds(t, p.w)
		}
	}
}

// TestManyAlarms: as many as there may be come out in their order, however they went in.
func TestManyAlarms(t *testing.T) {
	r := rand.New(rand.NewSource(4))
	w := New()
	for _, id := range r.Perm(4096) {
		w.Set(id, r.Intn(1<<40))
	}
	for _, id := range r.Perm(4096) {
		w.Set(id, id%97)
	}
	var want []api.Timer
	for at := range 97 {
		for id := at; id < 4096; id += 97 {
			want = append(want, api.Timer{ID: id, At: at})
		}
	}
	holds(t, w, want...)
	for now := range 97 {
		got := w.Due(now)
		if !slices.Equal(got, want[:len(got)]) || len(got) < 42 {
			t.Errorf("Due(%d) = %v", now, got)
		}
		want = want[len(got):]
	}
	holds(t, w)
}

// TestTwiceTheSame: the same calls have the same results, on a Wheel that was emptied as on a new one.
func TestTwiceTheSame(t *testing.T) {
	w := New()
	for range 2 {
		for _, x := range []*Wheel{w, New()} {
			for _, id := range []int{4, 1, 3, 2} {
				x.Set(id, 8)
			}
			x.Cancel(3)
			x.Set(4, 7)
			if got := x.Due(8); !slices.Equal(got, []api.Timer{{ID: 4, At: 7}, {ID: 1, At: 8}, {ID: 2, At: 8}}) {
				t.Errorf("Due(8) = %v", got)
			}
			holds(t, x)
		}
	}
}

// FuzzAnyArguments holds the calls against the model: each three bytes are a call, an id and a time.
func FuzzAnyArguments(f *testing.F) {
	f.Add([]byte(nil), 0, 0)
	f.Add([]byte{3, 3, 9, 3, 1, 9, 3, 2, 4, 1, 0, 8, 3, 3, 10, 1, 0, 10, 3, 1, 255}, 1, -1)
	f.Add([]byte{3, 1, 1, 3, 2, 1, 3, 3, 0, 0, 2, 0, 3, 1, 9, 2, 0, 0}, math.MinInt, math.MaxInt)
	for _, x := range extremes {
		f.Add([]byte{3, 5, 5, 4, 5, 5, 1, 1, 1}, x, x)
	}
	f.Fuzz(func(t *testing.T, steps []byte, id, at int) {
		p := pair{w: New()}
		for ; len(steps) >= 3; steps = steps[3:] {
			p.step(t, int(steps[0]%8), int(int8(steps[1])), int(int8(steps[2])))
			if steps[0]%5 == 0 { // and one of those that the bytes can't tell
				p.step(t, int(steps[0]/5%4), id, at)
			}
		}
		p.step(t, 3, id, at)
		p.step(t, 1, id, at)
		p.step(t, 0, id, at)
		p.step(t, 2, id, at)
	})
}
