package grammar_test

import (
	"math"
	"math/rand"
	"slices"
	"testing"

	"tapestry/api"
	"tapestry/grammar"
)

// same holds what is said of a list against the model: which of the chapter's words refuses it, 0: none.
func same(t *testing.T, h []api.Event) int {
	t.Helper()
	kept := slices.Clone(h)
	want, place, why := modelCheck(h)
	err, at := grammar.Check(h)
	if err != want || at != place {
		t.Fatalf("Check of %v: %d %d, want %d %d (%d)", h, err, at, want, place, why)
	}
	var open []int
	end := 0
	if want == api.OK {
		open, end = modelOpen(h), modelClose(h)
	}
	if l, err := grammar.Open(h); err != want || !slices.Equal(l, open) {
		t.Fatalf("Open of %v: %v %d, want %v %d", h, l, err, open, want)
	}
	if n, err := grammar.Close(h); err != want || n != end {
		t.Fatalf("Close of %v: %d %d, want %d %d", h, n, err, end, want)
	}
	if !slices.Equal(h, kept) {
		t.Fatalf("%v was written to: %v", kept, h)
	}
	return why
}

// ev is an event of a kind, an A, and other numbers that may be.
func ev(kind int, a ...int64) api.Event {
	e := filled(rand.New(rand.NewSource(int64(kind))), kind)
	e.A = 0
	if len(a) > 0 {
		e.A = a[0]
	}
	return e
}

// at is an event at a time.
func at(time int64, e api.Event) api.Event {
	e.Time = time
	return e
}

// list are events with their Ids in order, whatever is said of them otherwise.
func list(l ...api.Event) []api.Event {
	for i := range l {
		l[i].Id = i + 1
	}
	return l
}

// is holds a list to be a history, with what is open and where it is closed.
func is(t *testing.T, what string, h []api.Event, end int, open ...int) {
	t.Helper()
	if err, place := grammar.Check(h); err != api.OK || place != 0 {
		t.Errorf("%s: %d %d", what, err, place)
	}
	if l, err := grammar.Open(h); err != api.OK || !slices.Equal(l, open) {
		t.Errorf("%s: open %v %d, want %v", what, l, err, open)
	}
	if n, err := grammar.Close(h); err != api.OK || n != end {
		t.Errorf("%s: close %d %d, want %d", what, n, err, end)
	}
	same(t, h)
}

// none holds a list to be no history, by its event at a place.
func none(t *testing.T, what string, place int, h []api.Event) {
	t.Helper()
	if err, n := grammar.Check(h); err != api.ErrHistory || n != place {
		t.Errorf("%s: %d %d, want %d at %d", what, err, n, api.ErrHistory, place)
	}
	if l, err := grammar.Open(h); err != api.ErrHistory || len(l) != 0 {
		t.Errorf("%s: open %v %d", what, l, err)
	}
	if n, err := grammar.Close(h); err != api.ErrHistory || n != 0 {
		t.Errorf("%s: close %d %d", what, n, err)
	}
	same(t, h)
}

// P15.1 to P15.3: the chapter's examples.
func TestExamples(t *testing.T) {
	first := list(ev(1), ev(2, 1), ev(3), ev(4, 9), ev(22, 3), ev(2, 5), ev(15, 4))
	is(t, "the first example", first, 6, 3)
	for i, open := range [][]int{nil, nil, nil, {2}, {2, 3}, {3}, {3}} {
		is(t, "a beginning of the first example", first[:i], -1, open...)
	}
	none(t, "no task ahead", 1, list(ev(1), ev(3)))
	none(t, "no activity", 2, list(ev(1), ev(2, 1), ev(22, 2)))
	none(t, "behind the end", 2, list(ev(1), ev(31), ev(19)))
	none(t, "no beginning", 0, list(ev(2)))
}

// P15.1 to P15.3: the empty list.
func TestEmpty(t *testing.T) {
	is(t, "nil", nil, -1)
	is(t, "an empty list", []api.Event{}, -1)
}

// P15.1, word 1: each event is Valid, its Id is its place and 1, its Time is not below that of the one ahead.
func TestIdsAndTimes(t *testing.T) {
	good := func() []api.Event { return list(at(3, ev(1)), at(5, ev(2, 1)), at(5, ev(3)), at(7, ev(19))) }
	is(t, "unspoiled", good(), -1, 2)
	for i := range good() {
		for _, id := range []int{0, -1, i, i + 2, 256, 257, i + 1 + 1<<32, math.MinInt64, math.MaxInt64} {
			h := good()
			h[i].Id = id
			none(t, "another Id", i, h)
		}
		for _, time := range []int64{-1, 1<<40 + 1, math.MinInt64, math.MaxInt64} {
			h := good()
			h[i].Time = time
			none(t, "a Time that may not be", i, h)
		}
		if i > 0 {
			h := good()
			h[i].Time = h[i-1].Time - 1
			none(t, "a Time below that of the one ahead", i, h)
		}
		for _, spoil := range []func(e *api.Event){
			func(e *api.Event) { e.Kind = 0 }, func(e *api.Event) { e.Kind = 32 }, func(e *api.Event) { e.Kind = -3 },
			func(e *api.Event) { e.A = -1 }, func(e *api.Event) { e.F = -1 },
		} {
			h := good()
			spoil(&h[i])
			none(t, "one that isn't Valid", i, h)
		}
	}
	is(t, "the greatest Time", list(ev(1), at(1<<40, ev(19)), at(1<<40, ev(19))), -1)
	is(t, "it begins at the greatest Time", list(at(1<<40, ev(1)), at(1<<40, ev(30))), 1)
	none(t, "the first of two that may not be", 1, []api.Event{{Id: 1, Kind: 1}, {Id: 3, Kind: 19}, {Id: 2, Kind: 31, A: 1}})
}

// P15.1: there are at most 256 events, as there is no Id above that.
func TestMost(t *testing.T) {
	l := []api.Event{ev(1)}
	for len(l) < 256 {
		l = append(l, ev(19))
	}
	is(t, "256 events", list(l...), -1)
	none(t, "257 events", 256, list(append(l, ev(19))...))
	none(t, "257 events, the last one full", 256, list(append(l, ev(16, -4))...))
	is(t, "255, and full", list(append(l[:255:255], ev(16, -4))...), 255)
	none(t, "very many", 256, list(slices.Repeat(l, 4000)...)[:256*4000])
}

// P15.1, word 2: the first one is an EvStarted, no other one is.
func TestStarted(t *testing.T) {
	for kind := range 34 {
		e := ev(kind, 1)
		e.Id = 1
		if kind == api.EvStarted {
			is(t, "it alone", []api.Event{e}, -1)
		} else {
			none(t, "another kind first", 0, []api.Event{e})
			none(t, "another kind first, EvStarted behind it", 0, list(e, ev(1)))
		}
	}
	none(t, "full as the first one", 0, list(ev(16, -4)))
	none(t, "twice", 1, list(ev(1), ev(1)))
	none(t, "again, later", 3, list(ev(1), ev(2, 1), ev(3), ev(1)))
}

// P15.1, P15.3, word 3: no closing event stands ahead; of each closing kind, and each kind behind it.
func TestClosing(t *testing.T) {
	for _, kind := range []int{15, 16, 17, 18, 30, 31} {
		h := list(ev(1), ev(21), ev(2, 2), ev(3), ev(4, 0), ev(5), ev(9, 6), ev(kind))
		is(t, "closed", h, 7, 1, 3, 4, 5)
		for next := 1; next <= 31; next++ {
			for _, a := range []int64{0, -4, 2, 4, 5, 6, 7, 8} {
				none(t, "behind the end", 8, append(h[:8:8], list(append(h[:8:8], ev(next, a))...)[8]))
			}
		}
	}
	for _, kind := range []int{30, 31} {
		is(t, "ended from outside", list(ev(1), at(4, ev(kind))), 1)
	}
}

// P15.1, word 4: an EvTask's A is how many events stand ahead of it.
func TestTask(t *testing.T) {
	is(t, "tasks", list(ev(1), ev(2, 1), ev(2, 2), ev(19), at(5, ev(2, 4))), -1)
	for _, a := range []int64{-1, 0, 1, 2, 4, 5, 3 + 1<<32, math.MinInt64, math.MaxInt64} {
		none(t, "another A", 3, list(ev(1), ev(19), ev(2, 2), ev(2, a)))
	}
}

// P15.1, word 5: of each kind whether it needs a task's Time and place; EvFailed with CodeFull doesn't.
func TestCommands(t *testing.T) {
	// Whatever a kind of these may name has been made: an update 2, an activity 4, a timer 5, a child 6, a telling 7.
	base := list(ev(1), ev(21), ev(2, 2), ev(3), ev(4, 0), ev(5), ev(9, 6))
	names := map[int]int64{6: 4, 7: 5, 8: 6, 9: 6, 12: 2, 13: 2, 14: 2, 18: 1, 22: 4, 23: 4, 24: 4, 25: 5, 26: 6, 27: 6, 28: 6, 29: 7}
	for kind := 2; kind <= 31; kind++ {
		a := names[kind]
		ready := base
		if kind == 14 {
			ready = list(append(base[:7:7], ev(12, 2))...)
		}
		if kind == 28 {
			ready = list(append(base[:7:7], ev(26, 6), ev(2, 8))...)
		}
		n := len(ready)
		last := ready[n-1]
		for _, c := range []struct {
			what   string
			behind []api.Event
			late   int64
			needs  bool
		}{
			{"behind a command", nil, 0, false},
			{"behind a command, later", nil, 1, true},
			{"behind a task", []api.Event{ev(2, int64(n))}, 0, false},
			{"behind a task, later", []api.Event{ev(2, int64(n))}, 1, true},
			{"behind one from outside", []api.Event{ev(19)}, 0, true},
			{"behind one from outside, later", []api.Event{ev(20)}, 1, true},
			{"behind a task and one from outside", []api.Event{ev(2, int64(n)), ev(19)}, 0, true},
		} {
			e := ev(kind, a)
			e.Time = last.Time + c.late
			h := list(append(append(ready[:n:n], c.behind...), e)...)
			if kind == api.EvTask {
				h[len(h)-1].A = int64(len(h) - 1)
			}
			if command(kind) && c.needs {
				none(t, c.what, len(h)-1, h)
			} else if err, place := grammar.Check(h); err != api.OK || place != 0 {
				t.Errorf("%d %s: %d %d", kind, c.what, err, place)
			}
			same(t, h)
		}
	}
}

// P15.1, word 5: EvFailed with CodeFull may stand anywhere behind the first one, with no other code, and no other kind with that code.
func TestFull(t *testing.T) {
	for _, h := range [][]api.Event{
		{ev(1)}, {ev(1), ev(19)}, {ev(1), ev(2, 1)}, {ev(1), ev(2, 1), ev(3)}, {ev(1), ev(2, 1), ev(3), ev(22, 3)},
	} {
		n := len(h)
		for late := range int64(2) {
			is := list(append(h[:n:n], at(late, ev(16, -4)))...)
			if err, place := grammar.Check(is); err != api.OK || place != 0 {
				t.Errorf("behind %d, %d later: %d %d", n, late, err, place)
			}
			if end, err := grammar.Close(is); err != api.OK || end != n {
				t.Errorf("behind %d, %d later: close %d %d", n, late, end, err)
			}
			same(t, is)
		}
	}
	for _, code := range []int64{-5, -3, -2, -1, 0, 4, math.MinInt64} {
		none(t, "another code", 1, list(ev(1), ev(16, code)))
		none(t, "another code, later than the task", 2, list(ev(1), ev(2, 1), at(1, ev(16, code))))
		is(t, "another code, of the task", list(ev(1), ev(2, 1), ev(16, code)), 2)
	}
	none(t, "EvCanceled", 1, list(ev(1), ev(17, -4)))
	none(t, "EvCompleted", 1, list(ev(1), ev(15, -4)))
	is(t, "EvStopped", list(ev(1), ev(30, -4)), 1)
	none(t, "earlier", 1, list(at(5, ev(1)), at(4, ev(16, -4))))
}

// P15.1, word 6: what an A names is ahead, and of that kind: each naming kind, with each A.
func TestNamed(t *testing.T) {
	base := list(ev(1), ev(21), ev(2, 2), ev(3), ev(4, 0), ev(5), ev(9, 6), ev(12, 2), ev(26, 6), ev(19), ev(2, 10), ev(21), ev(2, 12))
	may := map[int][]int64{
		6: {4}, 22: {4}, 23: {4}, 24: {4}, 7: {5}, 25: {5}, 26: nil, 27: nil, 28: {6}, 8: {6}, 9: {6}, 29: {7}, 12: {12}, 13: {12}, 14: {2},
	}
	for kind, ids := range may {
		for _, a := range []int64{math.MinInt64, -1, 0, 1, 2, 3, 4, 5, 6, 7, 8, 9, 10, 11, 12, 13, 14, 15, 256, 257, 4 + 1<<32, 6 - 1<<62, math.MaxInt64} {
			h := list(append(base[:13:13], ev(kind, a))...)
			err, place := grammar.Check(h)
			if slices.Contains(ids, a) != (err == api.OK) || err != api.OK && (err != api.ErrHistory || place != 13) {
				t.Errorf("%d of %d: %d %d", kind, a, err, place)
			}
			same(t, h)
		}
	}
}

// P15.1: an EvFired is not ahead of the time of its timer; undone it may be.
func TestFired(t *testing.T) {
	for _, c := range []struct {
		due, time int64
		may       bool
	}{
		{9, 8, false}, {9, 9, true}, {9, 10, true}, {0, 0, true}, {1, 0, false}, {1 << 40, 1<<40 - 1, false}, {1 << 40, 1 << 40, true},
		{1<<40 + 1, 1 << 40, false}, {math.MaxInt64, 1 << 40, false},
	} {
		h := list(ev(1), ev(2, 1), ev(4, c.due), at(c.time, ev(25, 3)))
		if c.may {
			is(t, "fired", h, -1)
		} else {
			none(t, "fired too early", 3, h)
		}
		is(t, "undone", list(ev(1), ev(2, 1), ev(4, c.due), ev(7, 3)), -1)
	}
}
