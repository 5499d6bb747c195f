package vm_test

import (
	"strconv"
	"testing"

	"tapestry/api"
)

// P16.2: which errors there are, and that nothing changes with them.
func TestApplyRefuses(t *testing.T) {
	m := made(t, with("wait 0 ret"))
	refuse := func(what string, e api.Event, no api.Errno) {
		t.Helper()
		unchanged(t, m, what, func() {
			if err := m.Apply(e); err != no {
				t.Errorf("%s: Apply: %d, want %d", what, err, no)
			}
		})
	}
	// As long as nothing was seen only an EvStarted may come.
	for kind := range 33 {
		if kind != api.EvStarted {
			refuse("first", filled(kind, 1), api.ErrEvent)
		}
	}
	refuse("full, first", api.Event{Id: 1, Kind: 16, A: -4}, api.ErrEvent)
	for _, id := range []int{-1, 0, 2, 257, 1 << 32} {
		refuse("another Id", api.Event{Id: id, Kind: 1}, api.ErrEvent)
	}
	refuse("not Valid", api.Event{Id: 1, Kind: 1, A: 8}, api.ErrEvent)
	refuse("not Valid", api.Event{Id: 1, Kind: 1, Time: -1}, api.ErrEvent)
	refuse("not Valid", api.Event{Id: 1, Kind: 1, C: -1}, api.ErrEvent)
	comes(t, m, ev(api.EvStarted, 0, 7))
	// From then on none; nor what a task makes.
	refuse("started twice", api.Event{Id: 2, Kind: 1}, api.ErrEvent)
	for kind := range 19 {
		refuse("of a task", filled(kind, 2), api.ErrEvent)
	}
	for _, code := range []int64{-1, -2, -3, -5, 0, 4, 7} {
		refuse("failed", api.Event{Id: 2, Kind: 16, A: code}, api.ErrEvent)
	}
	refuse("completed as if full", api.Event{Id: 2, Kind: 15, A: -4}, api.ErrEvent)
	refuse("canceled as if full", api.Event{Id: 2, Kind: 17, A: -4}, api.ErrEvent)
	for _, id := range []int{-1, 0, 1, 3, 258} {
		refuse("another Id", api.Event{Id: id, Kind: 20}, api.ErrEvent)
	}
	for _, e := range []api.Event{{Kind: 19, A: 8}, {Kind: 19, A: -1}, {Kind: 19, C: -1}, {Kind: 19, D: 1}, {Kind: 22, C: 1}, {Kind: 22, A: 1}, {Kind: 24, A: 1, B: 5, C: 1}, {Kind: 25}, {Kind: 28, A: 1, C: 5}, {Kind: 30, B: 1}, {Kind: 31, A: 1}, {Kind: 0}, {Kind: 32}, {Kind: -1}, {Kind: 20, Time: 1<<40 + 1}} {
		e.Id = 2
		refuse("not Valid", e, api.ErrEvent)
	}
	// What it refused wasn't seen; the Time may be any one.
	comes(t, m, api.Event{Kind: 20, Time: 1 << 40}, api.Event{Kind: 20, Time: 3})
	comes(t, m, ev(api.EvTimedOut))
	refuse("over", api.Event{Id: 5, Kind: 20}, api.ErrClosed)
	refuse("over, and not Valid", api.Event{}, api.ErrClosed)
	refuse("over, and started", api.Event{Id: 1, Kind: 1}, api.ErrClosed)
	refuse("over, and a task's", filled(10, 5), api.ErrClosed)
}

// filled is an event of a kind that is Valid, if there is such a kind.
func filled(kind, id int) api.Event {
	e := api.Event{Id: id, Kind: kind}
	switch kind {
	case 2, 6, 7, 8, 9, 12, 13, 14, 25, 27, 29:
		e.A = 1
	case 22, 23:
		e.A, e.C = 1, 1
	case 24:
		e.A, e.B, e.C = 1, 1, 1
	case 26:
		e.A, e.B = 1, 1
	case 18:
		e.B = 1
	case 28:
		e.A = 1
	}
	return e
}

// P16.2: up to 256 events may be seen.
func TestApplyMany(t *testing.T) {
	m := begun(t, with("wait 0 ret"), 0)
	for range 255 {
		comes(t, m, ev(api.EvSignal, 1, 1))
	}
	unchanged(t, m, "257", func() {
		if err := m.Apply(api.Event{Id: 257, Kind: 19}); err != api.ErrEvent {
			t.Errorf("Apply: %d", err)
		}
	})
	if n := len(m.Look().Signals[1]); n != 255 {
		t.Errorf("%d values", n)
	}
}

// P16.2, P16.6: what becomes of it by the first event.
func TestStarted(t *testing.T) {
	m := made(t, with("arg ret"))
	comes(t, m, ev(api.EvStarted, 3, -7, 4, 5, 6, 8))
	checkLook(t, m, api.Look{Threads: []api.Thread{{Arg: -7, Future: -1, Waits: -1, Signal: -1}}})
}

// P16.2: signals, by their names and in order.
func TestSignals(t *testing.T) {
	m := begun(t, with("wait 7 attr 0 wait 7 attr 1 signals 7 attr 2 signals 0 attr 3 wait 2 ret"), 0)
	comes(t, m, ev(api.EvSignal, 7, 30, 1), ev(api.EvSignal, 0, 31), ev(api.EvSignal, 7, 32), ev(api.EvSignal, 7, 33), ev(api.EvSignal, 0, 34))
	checkLook(t, m, api.Look{Threads: []api.Thread{{Future: -1, Waits: -1, Signal: -1}}, Signals: [][]int64{{31, 34}, nil, nil, nil, nil, nil, nil, {30, 32, 33}}})
	checkTask(t, m, 5, 0, "task 6, attr 0 30, attr 1 32, attr 2 1, attr 3 2")
	checkLook(t, m, api.Look{Now: 5, Attrs: [4]int64{30, 32, 1, 2}, Threads: []api.Thread{{At: 8, Future: -1, Waits: -1, Signal: 2}}, Signals: [][]int64{{31, 34}, nil, nil, nil, nil, nil, nil, {33}}})
	comes(t, m, ev(api.EvSignal, 1, 9))
	checkTask(t, m, 6, 0, "task 12")
	comes(t, m, ev(api.EvSignal, 2, 10))
	checkTask(t, m, 6, 0, "task 14, completed 10")
}

// P16.2: by what a future is done, and how.
func TestFuturesAreDone(t *testing.T) {
	const asks = "push 1 act 1 pop push 2 timer pop push 3 child 4 pop wait 0 ret"
	for _, x := range []struct {
		e      api.Event
		done   bool
		value  int64
		status int
	}{
		{ev(api.EvDone, 0, 40, 9), true, 40, api.EndOK},
		{ev(api.EvBroken, 0, -41, 9), true, -41, api.EndFailed},
		{ev(api.EvLate, 0, 3, 9), true, 3, api.EndLate},
		{ev(api.EvFired, 0), true, 0, api.EndOK},
		{ev(api.EvBorn, 0, 12), false, 0, 0},
		{ev(api.EvUnborn, 0, 43), true, 43, api.EndFailed},
		{ev(api.EvChildEnd, 0, 44, 0), true, 44, api.EndOK},
		{ev(api.EvChildEnd, 0, 44, 1), true, 44, api.EndFailed},
		{ev(api.EvChildEnd, 0, 44, 2), true, 44, api.EndLate},
		{ev(api.EvChildEnd, 0, 44, 3), true, 44, api.EndCanceled},
		{ev(api.EvChildEnd, 0, 44, 4), true, 44, api.EndStopped},
		{ev(api.EvTold, 0, 45), false, 0, 0},
	} {
		// Whichever of the three the event names: it is its Event that counts.
		for f := range 3 {
			m := begun(t, with(asks), 0)
			checkTask(t, m, 5, 0, "task 1, activity 1 1, timer 7, child 4 3")
			e := x.e
			e.A = int64(3 + f)
			comes(t, m, e)
			want := []api.Future{{Kind: 3, Event: 3}, {Kind: 4, Event: 4}, {Kind: 5, Event: 5}}
			want[f].Done, want[f].Value, want[f].Status = x.done, x.value, x.status
			thread := api.Thread{At: 9, Future: -1, Waits: -1, Signal: 0}
			checkLook(t, m, api.Look{Now: 5, Threads: []api.Thread{thread}, Futures: want})
			// What is done stays so, whatever comes.
			for _, e := range []api.Event{ev(api.EvDone, 0, 70, 1), ev(api.EvBroken, 0, 71, 1), ev(api.EvLate, 0, 4, 1), ev(api.EvFired, 0), ev(api.EvUnborn, 0, 72), ev(api.EvChildEnd, 0, 73, 3)} {
				e.A = int64(3 + f)
				comes(t, m, e)
				if !x.done {
					break
				}
			}
			if !x.done {
				want[f].Done, want[f].Value = true, 70
			}
			checkLook(t, m, api.Look{Now: 5, Threads: []api.Thread{thread}, Futures: want})
			// Events that nothing is the future of.
			for _, a := range []int64{1, 2, 6, 300, 1<<32 + 3} {
				for _, e := range []api.Event{ev(api.EvDone, a, 70, 1), ev(api.EvFired, a), ev(api.EvChildEnd, a, 73, 3)} {
					comes(t, m, e)
				}
			}
			checkLook(t, m, api.Look{Now: 5, Threads: []api.Thread{thread}, Futures: want})
		}
	}
}

// P16.2, P16.3: by what it is over.
func TestOver(t *testing.T) {
	for _, e := range []api.Event{ev(api.EvFailed, -4), ev(api.EvStopped, 9), ev(api.EvTimedOut)} {
		m := begun(t, with("push 4 attr 2 push 6 store 3 push 1 act 0 pop push 2 scope enter timer pop wait 0 ret", query(0, "load 3 ret")), 0)
		checkTask(t, m, 5, 0, "task 1, attr 2 4, activity 0 1, timer 7")
		comes(t, m, ev(api.EvSignal, 0, 8), e)
		if n, over := m.Count(); n != 7 || !over {
			t.Errorf("Count: %d %v", n, over)
		}
		look := api.Look{Now: 5, Over: true, Futures: []api.Future{{Kind: 3, Event: 4}, {Kind: 4, Event: 5, Scope: 1}}, Scopes: []api.Scope{{Parent: -1}, {}}}
		look.Vars[3], look.Attrs[2] = 6, 4
		look.Signals = [][]int64{{8}, nil, nil, nil, nil, nil, nil, nil}
		checkLook(t, m, look)
		checkAnswers(t, m, 0, 0, 6, api.OK)
		for _, now := range []int64{6, -1, 1<<40 + 1} {
			if l, err := m.Task(now, 0); len(l) != 0 || err != api.ErrClosed {
				t.Errorf("Task(%d): %v %d", now, l, err)
			}
		}
	}
}

// P16.2: each name of a signal has a list of its own.
func TestSignalNames(t *testing.T) {
	for name := range 8 {
		s := strconv.Itoa(name)
		m := begun(t, with("signals "+s+" attr 0 wait "+s+" ret"), 0)
		for other := range int64(8) {
			comes(t, m, ev(api.EvSignal, other, 10+other))
		}
		checkTask(t, m, 0, 0, "task 9, attr 0 1, completed "+strconv.Itoa(10+name))
	}
}
