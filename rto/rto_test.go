package rto

import (
	"math"
	"math/rand"
	"testing"

	"trunkline/api"
)

const maxTime = 1 << 40

// wrongTimes, wrongBytes: what Measure and Acked refuse.
var (
	wrongTimes = []int{-1, -2, -maxTime, math.MinInt, math.MinInt + 1, maxTime + 1, 2 * maxTime, math.MaxInt - 1, math.MaxInt}
	wrongBytes = []int{-1, -2, -512, -65536, math.MinInt, math.MinInt + 1, 65537, 65536 + 512, 1 << 32, math.MaxInt - 1, math.MaxInt}
)

// field is one of a Way's, with its range.
type field struct {
	name        string
	of          func(w *api.Way) *int
	least, most int
}

// fields: all of them.
func fields() []field {
	return []field{
		{"Srtt", func(w *api.Way) *int { return &w.Srtt }, 0, maxTime},
		{"Var", func(w *api.Way) *int { return &w.Var }, 0, maxTime},
		{"Rto", func(w *api.Way) *int { return &w.Rto }, 4, 64},
		{"Errors", func(w *api.Way) *int { return &w.Errors }, 0, 1048576},
		{"Cwnd", func(w *api.Way) *int { return &w.Cwnd }, 512, 65536},
		{"Ssthresh", func(w *api.Way) *int { return &w.Ssthresh }, 1024, 65536},
		{"Acked", func(w *api.Way) *int { return &w.Acked }, 0, 65536},
	}
}

// plainSound, plainMeasure, plainLate, plainFast, plainAcked and plainRoom do what the chapter asks in the plainest way: they count up to limits one by one, or step by step.
func plainSound(w api.Way) bool {
	if w.Srtt < 0 || w.Srtt > maxTime || w.Var < 0 || w.Var > maxTime {
		return false
	}
	if w.Rto < 4 || w.Rto > 64 || w.Errors < 0 || w.Errors > 1048576 {
		return false
	}
	if w.Cwnd < 512 || w.Cwnd > 65536 || w.Ssthresh < 1024 || w.Ssthresh > 65536 {
		return false
	}
	return w.Acked >= 0 && w.Acked <= 65536
}

func plainMeasure(w api.Way, rtt int) (api.Way, api.Errno) {
	if !plainSound(w) {
		return api.Way{}, api.ErrForm
	}
	if rtt < 0 || rtt > maxTime {
		return api.Way{}, api.ErrArg
	}
	srtt, spread := rtt, rtt>>1
	if w.Srtt != 0 || w.Var != 0 {
		away := rtt - w.Srtt
		if away < 0 {
			away = -away
		}
		spread = (w.Var + w.Var + w.Var + away) >> 2
		srtt = (8*w.Srtt - w.Srtt + rtt) >> 3
	}
	w.Srtt, w.Var, w.Errors = srtt, spread, 0
	w.Rto = 4
	for w.Rto < 64 && w.Rto < srtt+spread+spread+spread+spread {
		w.Rto++
	}
	return w, api.OK
}

// plainHalf is half of a window, but not less than two packets.
func plainHalf(cwnd int) int {
	if cwnd < 2048 {
		return 1024
	}
	return cwnd >> 1
}

func plainLate(w api.Way) (api.Way, api.Errno) {
	if !plainSound(w) {
		return api.Way{}, api.ErrForm
	}
	for range w.Rto {
		if w.Rto < 64 {
			w.Rto++
		}
	}
	if w.Errors < 1048576 {
		w.Errors++
	}
	w.Ssthresh, w.Cwnd, w.Acked = plainHalf(w.Cwnd), 512, 0
	return w, api.OK
}

func plainFast(w api.Way) (api.Way, api.Errno) {
	if !plainSound(w) {
		return api.Way{}, api.ErrForm
	}
	half := plainHalf(w.Cwnd)
	w.Ssthresh, w.Cwnd, w.Acked = half, half, 0
	return w, api.OK
}

func plainAcked(w api.Way, bytes int, full bool) (api.Way, api.Errno) {
	if !plainSound(w) {
		return api.Way{}, api.ErrForm
	}
	if bytes < 0 || bytes > 65536 {
		return api.Way{}, api.ErrArg
	}
	if bytes == 0 || !full {
		return w, api.OK
	}
	if w.Cwnd <= w.Ssthresh {
		if bytes > 512 {
			bytes = 512
		}
		w.Cwnd += bytes
	} else {
		w.Acked += bytes
		if w.Acked > 65536 {
			w.Acked = 65536
		}
		if w.Acked >= w.Cwnd {
			w.Acked = 0
			w.Cwnd += 512
		}
	}
	if w.Cwnd > 65536 {
		w.Cwnd = 65536
	}
	return w, api.OK
}

func plainRoom(w api.Way, flight int) int {
	if !plainSound(w) || flight < 0 || flight > w.Cwnd {
		return 0
	}
	return w.Cwnd - flight
}

// corners calls f with the Ways whose fields are at the edges, or beside them: all that a change goes by, in all combinations.
func corners(f func(w api.Way)) {
	for _, srtt := range []int{0, 1, 7, maxTime} {
		for _, spread := range []int{0, 1, 5, maxTime} {
			for _, rto := range []int{4, 5, 31, 32, 33, 64} {
				for _, errors := range []int{0, 1048575, 1048576} {
					windows(func(w api.Way) {
						w.Srtt, w.Var, w.Rto, w.Errors = srtt, spread, rto, errors
						f(w)
					})
				}
			}
		}
	}
}

// windows does the same for the windows alone.
func windows(f func(w api.Way)) {
	for _, cwnd := range []int{512, 513, 1024, 1025, 2047, 2048, 2049, 2050, 65023, 65024, 65025, 65535, 65536} {
		for _, ssthresh := range []int{1024, 1025, 2048, 65535, 65536} {
			for _, acked := range []int{0, 1, 511, 512, 65535, 65536} {
				f(api.Way{Srtt: 9, Var: 2, Rto: 17, Errors: 3, Cwnd: cwnd, Ssthresh: ssthresh, Acked: acked})
			}
		}
	}
}

// unsound: Ways with one field beyond its range, by one or by far, and some with more of them.
func unsound() []api.Way {
	list := []api.Way{
		{},
		{Rto: 12},
		{Rto: 12, Cwnd: 2048},
		{Rto: 12, Ssthresh: 65536},
		{Cwnd: 2048, Ssthresh: 65536},
		{Srtt: -1, Var: -1, Rto: -1, Errors: -1, Cwnd: -1, Ssthresh: -1, Acked: -1},
		{Srtt: math.MinInt, Var: math.MinInt, Rto: math.MinInt, Errors: math.MinInt, Cwnd: math.MinInt, Ssthresh: math.MinInt, Acked: math.MinInt},
		{Srtt: math.MaxInt, Var: math.MaxInt, Rto: math.MaxInt, Errors: math.MaxInt, Cwnd: math.MaxInt, Ssthresh: math.MaxInt, Acked: math.MaxInt},
	}
	for _, x := range fields() {
		for _, n := range []int{x.least - 1, x.least - 1000, -1, math.MinInt, x.most + 1, x.most + 1000, math.MaxInt} {
			w := New()
			*x.of(&w) = n
			list = append(list, w)
		}
	}
	return list
}

// is holds an answer without an error against what is asked.
func is(t *testing.T, what string, got api.Way, e api.Errno, want api.Way) {
	t.Helper()
	if got != want || e != api.OK {
		t.Errorf("%s = %+v, %d, want %+v, 0", what, got, e, want)
	}
}

// refused holds an answer against an error.
func refused(t *testing.T, what string, got api.Way, e, want api.Errno) {
	t.Helper()
	if got != (api.Way{}) || e != want {
		t.Errorf("%s = %+v, %d, want nothing and %d", what, got, e, want)
	}
}

// againstPlain holds every call with w against the plain ones.
func againstPlain(t *testing.T, w api.Way, rtt, bytes, flight int, full bool) {
	t.Helper()
	if got, want := Sound(w), plainSound(w); got != want {
		t.Errorf("Sound(%+v) = %v", w, got)
	}
	got, e := Measure(w, rtt)
	if want, we := plainMeasure(w, rtt); got != want || e != we {
		t.Errorf("Measure(%+v, %d) = %+v, %d, want %+v, %d", w, rtt, got, e, want, we)
	}
	got, e = Late(w)
	if want, we := plainLate(w); got != want || e != we {
		t.Errorf("Late(%+v) = %+v, %d, want %+v, %d", w, got, e, want, we)
	}
	got, e = Fast(w)
	if want, we := plainFast(w); got != want || e != we {
		t.Errorf("Fast(%+v) = %+v, %d, want %+v, %d", w, got, e, want, we)
	}
	got, e = Acked(w, bytes, full)
	if want, we := plainAcked(w, bytes, full); got != want || e != we {
		t.Errorf("Acked(%+v, %d, %v) = %+v, %d, want %+v, %d", w, bytes, full, got, e, want, we)
	}
	if got, want := Room(w, flight), plainRoom(w, flight); got != want {
		t.Errorf("Room(%+v, %d) = %d, want %d", w, flight, got, want)
	}
}

// TestExamples: those of the chapter.
func TestExamples(t *testing.T) {
	w, e := Measure(New(), 8)
	is(t, "Measure with 8", w, e, api.Way{Srtt: 8, Var: 4, Rto: 24, Cwnd: 2048, Ssthresh: 65536})
	w, e = Measure(w, 0)
	is(t, "Measure with 0", w, e, api.Way{Srtt: 7, Var: 5, Rto: 27, Cwnd: 2048, Ssthresh: 65536})
	late, e := Late(w)
	is(t, "Late", late, e, api.Way{Srtt: 7, Var: 5, Rto: 54, Errors: 1, Cwnd: 512, Ssthresh: 1024})
	fast, e := Fast(w)
	is(t, "Fast", fast, e, api.Way{Srtt: 7, Var: 5, Rto: 27, Cwnd: 1024, Ssthresh: 1024})
	if n := Room(w, 48); n != 2000 {
		t.Errorf("Room for a flight of 48 = %d", n)
	}
	if n := Room(w, 5000); n != 0 {
		t.Errorf("Room for a flight of 5000 = %d", n)
	}
}

func TestNew(t *testing.T) {
	for range 2 {
		want := api.Way{Srtt: 0, Var: 0, Rto: 12, Errors: 0, Cwnd: 2048, Ssthresh: 65536, Acked: 0}
		if w := New(); w != want {
			t.Errorf("New = %+v, want %+v", w, want)
		}
		if !Sound(New()) {
			t.Error("New is not sound")
		}
	}
}

// TestSoundOfEdges: each field at the ends of its range, and one step beyond them.
func TestSoundOfEdges(t *testing.T) {
	for _, x := range fields() {
		for _, c := range []struct {
			n    int
			want bool
		}{
			{x.least - 1, false},
			{x.least, true},
			{x.least + 1, true},
			{(x.least + x.most) / 2, true},
			{x.most - 1, true},
			{x.most, true},
			{x.most + 1, false},
			{math.MinInt, false},
			{math.MaxInt, false},
		} {
			w := New()
			*x.of(&w) = c.n
			if got := Sound(w); got != c.want {
				t.Errorf("Sound with %s %d = %v", x.name, c.n, got)
			}
		}
	}
}

// TestSoundOfAllEnds: the ends of the ranges go together in every way, for instance a Cwnd above Ssthresh.
func TestSoundOfAllEnds(t *testing.T) {
	list := fields()
	for mask := range 1 << len(list) {
		var w api.Way
		for i, x := range list {
			*x.of(&w) = x.least
			if mask>>i&1 == 1 {
				*x.of(&w) = x.most
			}
		}
		if !Sound(w) {
			t.Errorf("Sound(%+v) = false", w)
		}
	}
}

// TestUnsound: no call does anything with a Way that is not sound, and this error goes ahead of that of an argument.
func TestUnsound(t *testing.T) {
	for _, w := range unsound() {
		if Sound(w) {
			t.Errorf("Sound(%+v) = true", w)
		}
		for _, rtt := range append([]int{0, 8, maxTime}, wrongTimes...) {
			got, e := Measure(w, rtt)
			refused(t, "Measure", got, e, api.ErrForm)
		}
		got, e := Late(w)
		refused(t, "Late", got, e, api.ErrForm)
		got, e = Fast(w)
		refused(t, "Fast", got, e, api.ErrForm)
		for _, bytes := range append([]int{0, 300, 65536}, wrongBytes...) {
			got, e = Acked(w, bytes, true)
			refused(t, "Acked", got, e, api.ErrForm)
			got, e = Acked(w, bytes, false)
			refused(t, "Acked", got, e, api.ErrForm)
		}
		for _, flight := range []int{0, 48, 5000, -1, math.MinInt, math.MaxInt} {
			if n := Room(w, flight); n != 0 {
				t.Errorf("Room(%+v, %d) = %d", w, flight, n)
			}
		}
	}
}

func TestMeasure(t *testing.T) {
	cases := []struct {
		srtt, spread, rtt        int
		wantSrtt, wantVar, wantR int
	}{
		// The first time.
		{0, 0, 0, 0, 0, 4},
		{0, 0, 1, 1, 0, 4},
		{0, 0, 2, 2, 1, 6},
		{0, 0, 3, 3, 1, 7},
		{0, 0, 7, 7, 3, 19},
		{0, 0, 8, 8, 4, 24},
		{0, 0, 20, 20, 10, 60},
		{0, 0, 21, 21, 10, 61},
		{0, 0, 22, 22, 11, 64}, // 66
		{0, 0, maxTime - 1, maxTime - 1, maxTime/2 - 1, 64},
		{0, 0, maxTime, maxTime, maxTime / 2, 64},
		// One of the two alone being 0 is not the first time.
		{1, 0, 9, 2, 2, 10},
		{8, 0, 8, 8, 0, 8},
		{8, 0, 0, 7, 2, 15},
		{1, 0, 0, 0, 0, 4},
		{0, 1, 0, 0, 0, 4},
		{0, 4, 0, 0, 3, 12},
		{0, 1, 8, 1, 2, 9},
		{0, 5, 3, 0, 4, 16},
		// Var goes by the Srtt before, up and down alike.
		{8, 4, 0, 7, 5, 27},
		{8, 4, 16, 9, 5, 29},
		{10, 1, 50, 15, 10, 55},
		{50, 1, 10, 45, 10, 64}, // 85
		{40, 0, 0, 35, 10, 64},  // 75
		{16, 8, 16, 16, 6, 40},
		// What divisions leave is discarded.
		{7, 3, 8, 7, 2, 15},  // 10 / 4, 57 / 8
		{7, 3, 7, 7, 2, 15},  // 9 / 4
		{7, 3, 9, 7, 2, 15},  // 11 / 4, 58 / 8
		{7, 3, 10, 7, 3, 19}, // 12 / 4, 59 / 8
		{7, 3, 15, 8, 4, 24}, // 17 / 4, 64 / 8
		{7, 3, 14, 7, 4, 23}, // 16 / 4, 63 / 8
		{1, 1, 1, 1, 0, 4},
		// Around the ends of Rto.
		{3, 0, 3, 3, 0, 4},
		{4, 0, 4, 4, 0, 4},
		{5, 0, 5, 5, 0, 5},
		{63, 0, 63, 63, 0, 63},
		{64, 0, 64, 64, 0, 64},
		{65, 0, 65, 65, 0, 64},
		{59, 2, 59, 59, 1, 63},
		{60, 2, 60, 60, 1, 64},
		{61, 2, 61, 61, 1, 64},
		// Far times.
		{maxTime, 0, maxTime, maxTime, 0, 64},
		{maxTime, maxTime, maxTime, maxTime, maxTime / 4 * 3, 64},
		{maxTime, maxTime, 0, maxTime / 8 * 7, maxTime, 64},
		{0, maxTime, maxTime, maxTime / 8, maxTime, 64},
		{0, maxTime, 0, 0, maxTime / 4 * 3, 64},
		{maxTime, 0, 0, maxTime / 8 * 7, maxTime / 4, 64},
	}
	for _, c := range cases {
		w := api.Way{Srtt: c.srtt, Var: c.spread, Rto: 33, Errors: 7, Cwnd: 700, Ssthresh: 1300, Acked: 99}
		want := api.Way{Srtt: c.wantSrtt, Var: c.wantVar, Rto: c.wantR, Errors: 0, Cwnd: 700, Ssthresh: 1300, Acked: 99}
		got, e := Measure(w, c.rtt)
		if got != want || e != api.OK {
			t.Errorf("Measure of %d, %d with %d = %+v, %d, want %+v", c.srtt, c.spread, c.rtt, got, e, want)
		}
		if !Sound(got) {
			t.Errorf("Measure of %d, %d with %d is not sound", c.srtt, c.spread, c.rtt)
		}
	}
}

// TestMeasureForgetsRto: the Rto ahead doesn't matter, nor do the Errors.
func TestMeasureForgetsRto(t *testing.T) {
	for _, rto := range []int{4, 12, 64} {
		for _, errors := range []int{0, 1, 1048575, 1048576} {
			w := New()
			w.Rto, w.Errors = rto, errors
			got, e := Measure(w, 8)
			is(t, "Measure", got, e, api.Way{Srtt: 8, Var: 4, Rto: 24, Cwnd: 2048, Ssthresh: 65536})
		}
	}
}

func TestMeasureOfWrongTimes(t *testing.T) {
	for _, rtt := range wrongTimes {
		w := New()
		for range 2 {
			got, e := Measure(w, rtt)
			refused(t, "Measure", got, e, api.ErrArg)
			w.Srtt, w.Var = 8, 4
		}
	}
}

func TestLate(t *testing.T) {
	cases := []struct {
		rto, errors, cwnd, ssthresh, acked int
		wantRto, wantErrors, wantSsthresh  int
	}{
		{12, 0, 2048, 65536, 0, 24, 1, 1024},
		{27, 0, 2048, 65536, 0, 54, 1, 1024},
		// Rto is doubled, up to 64.
		{4, 0, 2048, 65536, 0, 8, 1, 1024},
		{5, 0, 2048, 65536, 0, 10, 1, 1024},
		{31, 0, 2048, 65536, 0, 62, 1, 1024},
		{32, 0, 2048, 65536, 0, 64, 1, 1024},
		{33, 0, 2048, 65536, 0, 64, 1, 1024},
		{63, 0, 2048, 65536, 0, 64, 1, 1024},
		{64, 0, 2048, 65536, 0, 64, 1, 1024},
		// Errors goes up, to 2^20.
		{12, 1, 2048, 65536, 0, 24, 2, 1024},
		{12, 1048574, 2048, 65536, 0, 24, 1048575, 1024},
		{12, 1048575, 2048, 65536, 0, 24, 1048576, 1024},
		{12, 1048576, 2048, 65536, 0, 24, 1048576, 1024},
		// Ssthresh is half of the Cwnd before, whatever it was.
		{12, 0, 512, 65536, 0, 24, 1, 1024},
		{12, 0, 512, 1024, 0, 24, 1, 1024},
		{12, 0, 1024, 65536, 0, 24, 1, 1024},
		{12, 0, 2047, 65536, 0, 24, 1, 1024},
		{12, 0, 2049, 65536, 0, 24, 1, 1024},
		{12, 0, 2050, 65536, 0, 24, 1, 1025},
		{12, 0, 2051, 1024, 0, 24, 1, 1025},
		{12, 0, 10000, 1024, 0, 24, 1, 5000},
		{12, 0, 65535, 65536, 0, 24, 1, 32767},
		{12, 0, 65536, 65536, 0, 24, 1, 32768},
		{12, 0, 65536, 1024, 0, 24, 1, 32768},
		// Acked is forgotten.
		{12, 0, 2048, 1024, 1, 24, 1, 1024},
		{12, 0, 2048, 1024, 65536, 24, 1, 1024},
	}
	for _, c := range cases {
		w := api.Way{Srtt: 3, Var: 9, Rto: c.rto, Errors: c.errors, Cwnd: c.cwnd, Ssthresh: c.ssthresh, Acked: c.acked}
		want := api.Way{Srtt: 3, Var: 9, Rto: c.wantRto, Errors: c.wantErrors, Cwnd: 512, Ssthresh: c.wantSsthresh}
		got, e := Late(w)
		is(t, "Late", got, e, want)
	}
}

// TestLateAgainAndAgain: in the end only the Errors go on, and a Measure ends that.
func TestLateAgainAndAgain(t *testing.T) {
	w, e := New(), api.OK
	for n := 1; n <= 1000; n++ {
		w, e = Late(w)
		rto := 64
		switch n {
		case 1:
			rto = 24
		case 2:
			rto = 48
		}
		is(t, "Late", w, e, api.Way{Rto: rto, Errors: n, Cwnd: 512, Ssthresh: 1024})
	}
	w, e = Measure(w, 6)
	is(t, "Measure", w, e, api.Way{Srtt: 6, Var: 3, Rto: 18, Cwnd: 512, Ssthresh: 1024})
}

func TestFast(t *testing.T) {
	cases := []struct {
		cwnd, ssthresh, acked int
		want                  int // Cwnd, and Ssthresh
	}{
		{2048, 65536, 0, 1024},
		{512, 65536, 0, 1024}, // the least Ssthresh is more than this Cwnd
		{512, 1024, 0, 1024},
		{1024, 1024, 0, 1024},
		{1025, 1024, 7, 1024},
		{2047, 65536, 0, 1024},
		{2049, 65536, 0, 1024},
		{2050, 65536, 0, 1025},
		{2051, 1024, 65536, 1025},
		{10000, 1024, 9999, 5000},
		{65535, 65536, 0, 32767},
		{65536, 65536, 0, 32768},
		{65536, 1024, 1, 32768},
	}
	for _, c := range cases {
		w := api.Way{Srtt: 3, Var: 9, Rto: 64, Errors: 1048576, Cwnd: c.cwnd, Ssthresh: c.ssthresh, Acked: c.acked}
		want := api.Way{Srtt: 3, Var: 9, Rto: 64, Errors: 1048576, Cwnd: c.want, Ssthresh: c.want}
		got, e := Fast(w)
		is(t, "Fast", got, e, want)
	}
}

func TestAcked(t *testing.T) {
	cases := []struct {
		cwnd, ssthresh, acked int
		bytes                 int
		wantCwnd, wantAcked   int
	}{
		// Up to Ssthresh: by the bytes, at most by Mtu, and without Acked.
		{2048, 65536, 0, 1, 2049, 0},
		{2048, 65536, 0, 300, 2348, 0},
		{2048, 65536, 0, 511, 2559, 0},
		{2048, 65536, 0, 512, 2560, 0},
		{2048, 65536, 0, 513, 2560, 0},
		{2048, 65536, 0, 2000, 2560, 0},
		{2048, 65536, 0, 65536, 2560, 0},
		{512, 1024, 0, 512, 1024, 0},
		{512, 1024, 77, 100, 612, 77},
		{512, 1024, 65536, 100, 612, 65536},
		{1023, 1024, 0, 512, 1535, 0}, // beyond Ssthresh
		{1024, 1024, 0, 300, 1324, 0},
		{1024, 1024, 1000, 300, 1324, 1000},
		{65535, 65535, 9, 512, 65536, 9},
		{65024, 65536, 0, 512, 65536, 0},
		{65025, 65536, 0, 512, 65536, 0},
		{65535, 65536, 0, 1, 65536, 0},
		{65535, 65536, 0, 2, 65536, 0},
		{65536, 65536, 0, 1, 65536, 0},
		{65536, 65536, 5, 512, 65536, 5},
		// Above it: by Mtu, whenever Acked is at least Cwnd.
		{1025, 1024, 0, 1, 1025, 1},
		{1025, 1024, 0, 1024, 1025, 1024},
		{1025, 1024, 0, 1025, 1537, 0},
		{1025, 1024, 0, 1026, 1537, 0},
		{1025, 1024, 1024, 1, 1537, 0},
		{1025, 1024, 1023, 1, 1025, 1024},
		{1025, 1024, 1023, 3, 1537, 0}, // nothing of Acked is left
		{1025, 1024, 65536, 1, 1537, 0},
		{1025, 1024, 0, 65536, 1537, 0},
		{2048, 2047, 300, 300, 2048, 600},
		{3000, 2048, 2500, 499, 3000, 2999},
		{3000, 2048, 2500, 500, 3512, 0},
		{65000, 1024, 0, 64999, 65000, 64999},
		{65000, 1024, 64000, 1000, 65512, 0},
		{65024, 1024, 65023, 1, 65536, 0},
		{65025, 1024, 65024, 1, 65536, 0},
		{65535, 1024, 65534, 1, 65536, 0},
		{65536, 1024, 0, 65535, 65536, 65535},
		{65536, 1024, 0, 65536, 65536, 0},
		{65536, 1024, 65535, 1, 65536, 0},
		{65536, 1024, 65000, 65536, 65536, 0}, // Acked is 65536 at most, which is enough
		{65536, 65535, 65535, 65536, 65536, 0},
		// No bytes.
		{2048, 65536, 0, 0, 2048, 0},
		{1025, 1024, 1024, 0, 1025, 1024},
		{1025, 1024, 1025, 0, 1025, 1025},
		{1025, 1024, 65536, 0, 1025, 65536},
	}
	for _, c := range cases {
		w := api.Way{Srtt: 3, Var: 9, Rto: 40, Errors: 6, Cwnd: c.cwnd, Ssthresh: c.ssthresh, Acked: c.acked}
		want := w
		want.Cwnd, want.Acked = c.wantCwnd, c.wantAcked
		got, e := Acked(w, c.bytes, true)
		if got != want || e != api.OK {
			t.Errorf("Acked of %+v with %d = %+v, %d, want %+v", w, c.bytes, got, e, want)
		}
		got, e = Acked(w, c.bytes, false)
		is(t, "Acked of a window that was not full", got, e, w)
	}
}

func TestAckedOfWrongBytes(t *testing.T) {
	for _, bytes := range wrongBytes {
		windows(func(w api.Way) {
			for _, full := range []bool{false, true} {
				got, e := Acked(w, bytes, full)
				refused(t, "Acked", got, e, api.ErrArg)
			}
		})
	}
}

// TestAckedOpensTheWindow: fast up to Ssthresh, and then by one Mtu for each window, up to its end.
func TestAckedOpensTheWindow(t *testing.T) {
	w := api.Way{Rto: 12, Cwnd: 512, Ssthresh: 1500}
	for _, cwnd := range []int{812, 1112, 1412, 1712, 1712, 1712, 1712, 1712, 1712, 1712 + 512} {
		w, _ = Acked(w, 300, true)
		if w.Cwnd != cwnd {
			t.Fatalf("Cwnd = %d, want %d", w.Cwnd, cwnd)
		}
		w, _ = Acked(w, 300, false)
		if w.Cwnd != cwnd {
			t.Fatalf("Cwnd = %d, want %d: it wasn't full", w.Cwnd, cwnd)
		}
	}
	for range 200 {
		w, _ = Acked(w, 65536, true)
	}
	is(t, "Acked", w, api.OK, api.Way{Rto: 12, Cwnd: 65536, Ssthresh: 1500})
}

func TestRoom(t *testing.T) {
	cases := []struct{ cwnd, flight, want int }{
		{2048, 0, 2048},
		{2048, 1, 2047},
		{2048, 48, 2000},
		{2048, 2047, 1},
		{2048, 2048, 0},
		{2048, 2049, 0},
		{2048, 5000, 0},
		{2048, math.MaxInt, 0},
		{2048, math.MaxInt - 1, 0},
		{2048, -1, 0},
		{2048, -2048, 0},
		{2048, math.MinInt, 0},
		{2048, math.MinInt + 2048, 0},
		{512, 0, 512},
		{512, 511, 1},
		{512, 512, 0},
		{512, 513, 0},
		{512, -1, 0},
		{65536, 0, 65536},
		{65536, 65535, 1},
		{65536, 65536, 0},
		{65536, 65537, 0},
		{65536, -1, 0},
	}
	for _, c := range cases {
		w := New()
		w.Cwnd, w.Acked = c.cwnd, 33
		if got := Room(w, c.flight); got != c.want {
			t.Errorf("Room of %d for a flight of %d = %d, want %d", c.cwnd, c.flight, got, c.want)
		}
	}
}

func TestAgainstPlainOfCorners(t *testing.T) {
	rtts := []int{0, 1, 2, 3, 7, 8, 60, maxTime - 1, maxTime, -1, maxTime + 1}
	bytes := []int{0, 1, 511, 512, 513, 1024, 2048, 65535, 65536, -1, 65537}
	flights := []int{0, 1, 511, 512, 513, 2048, 65535, 65536, 65537, -1, math.MaxInt}
	n := 0
	corners(func(w api.Way) {
		againstPlain(t, w, rtts[n%len(rtts)], bytes[n%len(bytes)], flights[n%len(flights)], n%7 != 0)
		n++
	})
	windows(func(w api.Way) {
		for i := range rtts {
			againstPlain(t, w, rtts[i], bytes[i], flights[i], true)
		}
	})
	for _, w := range unsound() {
		for i := range rtts {
			againstPlain(t, w, rtts[i], bytes[i], flights[i], true)
		}
	}
}

// TestAgainstPlainOfTimes tries all small times, where divisions and the ends of Rto show.
func TestAgainstPlainOfTimes(t *testing.T) {
	for srtt := range 70 {
		for spread := range 20 {
			for rtt := range 70 {
				w := New()
				w.Srtt, w.Var = srtt, spread
				againstPlain(t, w, rtt, rtt, rtt, true)
			}
		}
	}
}

// TestAgainstPlainOfLives changes Ways again and again: what comes out of a sound one is sound.
func TestAgainstPlainOfLives(t *testing.T) {
	r := rand.New(rand.NewSource(12))
	for range 200 {
		w, p, e, pe := New(), New(), api.OK, api.OK
		most := 1 << r.Intn(41)
		for range 500 {
			switch n := r.Intn(20); {
			case n < 4:
				rtt := r.Intn(most + 1)
				w, e = Measure(w, rtt)
				p, pe = plainMeasure(p, rtt)
			case n == 4:
				w, e = Late(w)
				p, pe = plainLate(p)
			case n == 5:
				w, e = Fast(w)
				p, pe = plainFast(p)
			default:
				bytes, full := r.Intn(1<<r.Intn(17)+1), r.Intn(4) != 0
				w, e = Acked(w, bytes, full)
				p, pe = plainAcked(p, bytes, full)
			}
			if w != p || e != pe {
				t.Fatalf("%+v, %d, want %+v, %d", w, e, p, pe)
			}
			if e != api.OK || !Sound(w) {
				t.Fatalf("%+v, %d is not sound", w, e)
			}
		}
	}
}

// TestTwiceTheSame: nothing is kept between calls, and no call changes what it is given.
func TestTwiceTheSame(t *testing.T) {
	w := api.Way{Srtt: 8, Var: 4, Rto: 24, Errors: 2, Cwnd: 4096, Ssthresh: 2048, Acked: 4000}
	given := w
	for range 2 {
		got, e := Measure(w, 0)
		is(t, "Measure", got, e, api.Way{Srtt: 7, Var: 5, Rto: 27, Cwnd: 4096, Ssthresh: 2048, Acked: 4000})
		got, e = Late(w)
		is(t, "Late", got, e, api.Way{Srtt: 8, Var: 4, Rto: 48, Errors: 3, Cwnd: 512, Ssthresh: 2048})
		got, e = Fast(w)
		is(t, "Fast", got, e, api.Way{Srtt: 8, Var: 4, Rto: 24, Errors: 2, Cwnd: 2048, Ssthresh: 2048})
		got, e = Acked(w, 96, true)
		is(t, "Acked", got, e, api.Way{Srtt: 8, Var: 4, Rto: 24, Errors: 2, Cwnd: 4608, Ssthresh: 2048})
		got, e = Acked(w, 65537, true)
		refused(t, "Acked", got, e, api.ErrArg)
		if n := Room(w, 1000); n != 3096 {
			t.Errorf("Room = %d", n)
		}
	}
	if w != given {
		t.Errorf("given %+v, now %+v", given, w)
	}
}

// FuzzAnyArguments holds every call against the plain ones, for whatever is given.
func FuzzAnyArguments(f *testing.F) {
	f.Add(0, 0, 12, 0, 2048, 65536, 0, 8, 300, 48, true)
	f.Add(8, 4, 64, 1048576, 65536, 1024, 65536, 0, 65536, 65536, true)
	f.Add(maxTime, maxTime, 4, 0, 512, 1024, 0, maxTime, 0, math.MaxInt, false)
	f.Add(math.MinInt, math.MaxInt, -1, -1, 0, 0, -1, math.MinInt, math.MaxInt, math.MinInt, true)
	f.Fuzz(func(t *testing.T, srtt, spread, rto, errors, cwnd, ssthresh, acked, rtt, bytes, flight int, full bool) {
		w := api.Way{Srtt: srtt, Var: spread, Rto: rto, Errors: errors, Cwnd: cwnd, Ssthresh: ssthresh, Acked: acked}
		againstPlain(t, w, rtt, bytes, flight, full)
	})
}
