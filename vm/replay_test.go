package vm_test

import (
	"reflect"
	"slices"
	"testing"

	"tapestry/api"
	"tapestry/vm"
)

// history are events, numbered, each at the time of the one ahead, but where one has a later one of its own.
func history(l ...api.Event) []api.Event {
	l = slices.Clone(l)
	now := int64(0)
	for i := range l {
		now = max(now, l[i].Time)
		l[i].Time = now
	}
	return numbered(l)
}

// at is an event at a time.
func at(now int64, e api.Event) api.Event {
	e.Time = now
	return e
}

// replays: Replay answers a machine that has seen a history.
func replays(t *testing.T, p api.Program, l ...api.Event) *vm.Machine {
	t.Helper()
	h := history(l...)
	was := slices.Clone(h)
	m, err, place := vm.Replay(p, h)
	if m == nil || err != api.OK || place != 0 {
		t.Fatalf("Replay of %s: %v %d %d", says(l), m != nil, err, place)
	}
	if !slices.Equal(h, was) {
		t.Error("Replay has changed a history")
	}
	closes := len(h) > 0 && slices.Contains([]int{15, 16, 17, 18, 30, 31}, h[len(h)-1].Kind)
	if n, over := m.Count(); n != len(h) || over != closes {
		t.Errorf("Count: %d %v", n, over)
	}
	return m
}

// refuses: Replay answers an error and a place.
func refuses(t *testing.T, p api.Program, no api.Errno, place int, l ...api.Event) {
	t.Helper()
	if m, err, at := vm.Replay(p, history(l...)); m != nil || err != no || at != place {
		t.Errorf("Replay of %s: %v %d %d, want %d %d", says(history(l...)), m != nil, err, at, no, place)
	}
}

// P16.4: what New and chapter 15 refuse, in this order.
func TestReplayRefuses(t *testing.T) {
	bad := with("arg")
	start, task := ev(api.EvStarted), ev(api.EvTask)
	refuses(t, bad, api.ErrProgram, 0)
	refuses(t, bad, api.ErrProgram, 0, start, start)
	refuses(t, api.Program{}, api.ErrProgram, 0, start, task)
	p := with("arg ret")
	refuses(t, p, api.ErrHistory, 0, task)
	refuses(t, p, api.ErrHistory, 1, start, start)
	// Ahead of where it drifts first.
	refuses(t, p, api.ErrDrift, 2, start, task, ev(api.EvTimer, 9))
	refuses(t, p, api.ErrHistory, 4, start, task, ev(api.EvTimer, 9), ev(api.EvCancel), ev(api.EvTimer, 9))
	// Its Time is a history's, and not any one.
	if m, err, place := vm.Replay(p, []api.Event{{Id: 1, Kind: 1, Time: 5}, {Id: 2, Kind: 20, Time: 4}}); m != nil || err != api.ErrHistory || place != 1 {
		t.Errorf("%v %d %d", m, err, place)
	}
	// Without events it has seen none.
	m := replays(t, p)
	checkLook(t, m, api.Look{})
	comes(t, m, ev(api.EvStarted, 0, 7))
	checkTask(t, m, 5, 0, "task 1, completed 7")
}

// P16.4: where it drifts.
func TestReplayDrifts(t *testing.T) {
	p := with("push 3 act 1 pop push 4 timer pop wait 0 attr 2 wait 0 ret")
	start, task, act, timer := ev(api.EvStarted, 0, 7), ev(api.EvTask), ev(api.EvActivity, 1, 3), ev(api.EvTimer, 9)
	first, signal := at(5, task), ev(api.EvSignal, 0, 8)
	replays(t, p, start)
	replays(t, p, start, signal)
	replays(t, p, start, first, act, timer)
	replays(t, p, start, first, act, timer, signal, signal)
	replays(t, p, start, first, act, timer, task, task)
	replays(t, p, start, first, act, timer, signal, task, ev(api.EvAttr, 2, 8))
	replays(t, p, start, first, act, timer, signal, task, ev(api.EvAttr, 2, 8), signal, task, ev(api.EvCompleted, 8))
	// Another Kind, or other numbers.
	for _, e := range []api.Event{ev(api.EvActivity, 0, 3), ev(api.EvActivity, 1, 4), timer, ev(api.EvChild, 1, 3), ev(api.EvDraw, 1), ev(api.EvCompleted, 1), ev(api.EvFailed, -4), ev(api.EvAgain, 1, 3)} {
		refuses(t, p, api.ErrDrift, 2, start, first, e)
	}
	refuses(t, p, api.ErrDrift, 2, start, first, timer, act)
	refuses(t, p, api.ErrDrift, 3, start, first, act, act)
	refuses(t, p, api.ErrDrift, 3, start, first, act, ev(api.EvTimer, 10), signal)
	refuses(t, p, api.ErrDrift, 3, start, first, act, ev(api.EvTimer, 8), at(8, ev(api.EvFired, 4)))
	refuses(t, p, api.ErrDrift, 3, start, first, act, ev(api.EvFailed, -4))
	refuses(t, p, api.ErrDrift, 3, start, at(6, task), act, timer)
	// None where one stands behind it.
	refuses(t, p, api.ErrDrift, 4, start, first, act, timer, timer)
	refuses(t, p, api.ErrDrift, 4, start, first, act, timer, ev(api.EvFailed, -1))
	refuses(t, p, api.ErrDrift, 4, start, first, act, timer, ev(api.EvCompleted, 7))
	refuses(t, p, api.ErrDrift, 6, start, first, act, timer, signal, task, ev(api.EvAttr, 1, 8))
	refuses(t, p, api.ErrDrift, 5, start, first, act, timer, task, ev(api.EvAttr, 2, 8))
	// More than stand there: the place behind them, whatever stands there.
	refuses(t, p, api.ErrDrift, 2, start, first)
	refuses(t, p, api.ErrDrift, 3, start, first, act)
	refuses(t, p, api.ErrDrift, 3, start, first, act, signal)
	refuses(t, p, api.ErrDrift, 3, start, first, act, first)
	refuses(t, p, api.ErrDrift, 2, start, first, first)
	refuses(t, p, api.ErrDrift, 2, start, first, ev(api.EvTimedOut))
	refuses(t, p, api.ErrDrift, 6, start, first, act, timer, signal, task)
	// It drifts at the first such place, though there are more.
	refuses(t, p, api.ErrDrift, 3, start, first, act, act, act, signal, task, act)
	// What is told behind a closing command is none more.
	refuses(t, with("arg ret"), api.ErrDrift, 2, start, first, ev(api.EvAttr, 0, 7), ev(api.EvCompleted, 7))
	refuses(t, with("arg ret"), api.ErrDrift, 2, start, first, ev(api.EvCompleted, 8))
	refuses(t, with("arg ret"), api.ErrDrift, 2, start, first)
	refuses(t, with("arg ret"), api.ErrDrift, 2, start, first, signal)
	// Each number counts: also a tell's third one, an answer's status.
	tells := with("push 1 child 0 push 9 tell 3 wait 0 ret", update(0, "arg fail"))
	replays(t, tells, start, first, ev(api.EvChild, 0, 1), ev(api.EvTell, 3, 3, 9))
	refuses(t, tells, api.ErrDrift, 3, start, first, ev(api.EvChild, 0, 1), ev(api.EvTell, 3, 3, 8))
	refuses(t, tells, api.ErrDrift, 3, start, first, ev(api.EvChild, 0, 1), ev(api.EvTell, 3, 2, 9))
	told := []api.Event{start, ev(api.EvUpdate, 0, 4), first, ev(api.EvAccept, 2), ev(api.EvChild, 0, 1), ev(api.EvTell, 5, 3, 9), ev(api.EvAnswer, 2, 4, 1)}
	replays(t, tells, told...)
	told[6].C = 0
	refuses(t, tells, api.ErrDrift, 6, told...)
}

// P16.4: draws are those of the history, and which run goes on behind an EvAgain doesn't count.
func TestReplayAnyValue(t *testing.T) {
	start, task := ev(api.EvStarted, 0, 7), ev(api.EvTask)
	p := with("draw store 3 draw draw sub attr 0 wait 0 pop draw attr 1 wait 0 ret")
	for _, v := range edges() {
		m := replays(t, p, start, task, ev(api.EvDraw, 5), ev(api.EvDraw, v), ev(api.EvDraw, 1), ev(api.EvAttr, 0, v-1), ev(api.EvSignal), task, ev(api.EvDraw, v), ev(api.EvAttr, 1, v))
		if look := m.Look(); look.Vars[3] != 5 || look.Attrs != [4]int64{v - 1, v} {
			t.Errorf("%v", look)
		}
	}
	// Where there is no draw, it drifts.
	refuses(t, p, api.ErrDrift, 3, start, task, ev(api.EvDraw, 5), ev(api.EvAttr, 0, 5))
	refuses(t, p, api.ErrDrift, 4, start, task, ev(api.EvDraw, 5), ev(api.EvDraw, 5))
	refuses(t, p, api.ErrDrift, 5, start, task, ev(api.EvDraw, 5), ev(api.EvDraw, 5), ev(api.EvDraw, 4), ev(api.EvAttr, 0, 0))
	refuses(t, p, api.ErrDrift, 2, start, task, ev(api.EvSignal), ev(api.EvCancel))
	again := with("arg again")
	for _, next := range []int64{1, 2, 1 << 40} {
		replays(t, again, start, task, ev(api.EvAgain, 7, next))
	}
	refuses(t, again, api.ErrDrift, 2, start, task, ev(api.EvAgain, 8, 2))
	refuses(t, again, api.ErrDrift, 2, start, task, ev(api.EvCompleted, 7))
	refuses(t, with("arg ret"), api.ErrDrift, 2, start, task, ev(api.EvAgain, 7, 2))
}

// P16.4: an EvFailed with A CodeFull that the task didn't make is one from outside.
func TestReplayFull(t *testing.T) {
	start, task, full := ev(api.EvStarted, 0, 7), ev(api.EvTask), ev(api.EvFailed, -4)
	p := with("push 3 store 1 push 4 timer pop wait 0 ret")
	timer := ev(api.EvTimer, 4)
	want := api.Look{Over: true, Vars: [16]int64{1: 3}, Futures: []api.Future{{Kind: 4, Event: 3}}}
	checkLook(t, replays(t, p, start, task, timer, full), want)
	checkLook(t, replays(t, p, start, task, timer, at(9, full)), want)
	checkLook(t, replays(t, p, start, task, timer, ev(api.EvCancel), full), want)
	checkLook(t, replays(t, p, start, full), api.Look{Over: true})
	refuses(t, p, api.ErrDrift, 2, start, task, full)
	refuses(t, p, api.ErrDrift, 2, start, task, at(9, full))
	// The program itself may fail with that number; of one made so the Time may be any, too.
	own := with("push -4 fail")
	replays(t, own, start, task, full)
	replays(t, own, start, task, at(9, full))
	refuses(t, own, api.ErrDrift, 2, start, task, ev(api.EvFailed, -3))
	refuses(t, own, api.ErrDrift, 2, start, task)
	refuses(t, with("push -4 ret"), api.ErrDrift, 2, start, task, full)
	// Without room for a command it fails so, in a replay, too; else it is drift.
	all := []api.Event{start}
	for range 253 {
		all = append(all, ev(api.EvSignal, 3, 1))
	}
	filled := with("push 1 attr 0 wait 0 ret")
	replays(t, with("push 1 timer pop wait 0 ret"), append(slices.Clone(all[:253]), task, ev(api.EvTimer, 1))...)
	replays(t, filled, append(slices.Clone(all), task, full)...)
	refuses(t, filled, api.ErrDrift, 255, append(slices.Clone(all), task, ev(api.EvAttr, 0, 1))...)
	refuses(t, filled, api.ErrDrift, 255, append(slices.Clone(all), task)...)
	// A task that is the last event of all may make nothing.
	all = append(all, ev(api.EvSignal, 3, 1))
	replays(t, with("wait 0 ret"), append(slices.Clone(all), task)...)
	refuses(t, filled, api.ErrDrift, 256, append(slices.Clone(all), task)...)
	refuses(t, with("arg ret"), api.ErrDrift, 256, append(slices.Clone(all), task)...)
}

// P16.7: a replayed one stands as that one does whose history it is, what hasn't been looked at by a task, too.
func TestReplayStandsTheSame(t *testing.T) {
	p := with("wait 0 attr 0 push 1 timer pop jump 0", update(0, "draw arg ret"), query(1, "signals 0 arg add ret"))
	m := begun(t, p, 7)
	comes(t, m, ev(api.EvSignal, 0, 1))
	l := checkTask(t, m, 5, 0, "task 2, attr 0 1, timer 6")
	h := append(history(ev(api.EvStarted, 0, 7), ev(api.EvSignal, 0, 1)), l...)
	tail := []api.Event{ev(api.EvCancel), ev(api.EvUpdate, 0, 4), ev(api.EvUpdate, 2, 4), ev(api.EvSignal, 0, 3), ev(api.EvSignal, 0, 2)}
	for _, e := range tail {
		e.Id, e.Time = len(h)+1, 5
		h = append(h, e)
		comes(t, m, e)
	}
	n := replays(t, p, h...)
	if a, b := m.Look(), n.Look(); !reflect.DeepEqual(bare(a), bare(b)) {
		t.Errorf("%v, want %v", b, a)
	}
	for _, m := range []*vm.Machine{m, n} {
		checkAnswers(t, m, 1, 10, 12, api.OK)
		checkTask(t, m, 6, 0, "task 10, undotimer 5, accept 7, reject 8 50, attr 0 3, attr 0 2, draw -2152535657050944081, answer 7 4 0")
	}
	if a, b := m.Look(), n.Look(); !reflect.DeepEqual(bare(a), bare(b)) {
		t.Errorf("%v, want %v", b, a)
	}
}

// P16.5: queries.
func TestQuery(t *testing.T) {
	p := with("now store 2 wait 0 store 1 jump 2", query(0, "load 1 arg sub ret"), query(7, "signals 0 ret"), query(1, "arg fail"), query(2, "pop ret"), query(3, "jump 0"), query(4, "push 0 ret"), query(5, "now arg jumpz 4 ret push 8 fail"), update(6, "arg ret"), check(6, "arg ret"), sub("arg ret"))
	m := made(t, p)
	for name := -1; name < 9; name++ {
		checkAnswers(t, m, name, 1, 0, api.ErrAsk)
	}
	comes(t, m, ev(api.EvStarted, 0, 9))
	asks := func(one, now, signals int64) {
		t.Helper()
		unchanged(t, m, "queries", func() {
			for _, arg := range edges() {
				checkAnswers(t, m, 0, arg, one-arg, api.OK)
				checkAnswers(t, m, 7, arg, signals, api.OK)
				for _, name := range []int{-1, 1, 2, 3, 6, 8, 1 << 32} {
					checkAnswers(t, m, name, arg, 0, api.ErrAsk)
				}
				checkAnswers(t, m, 4, arg, 0, api.OK)
			}
			checkAnswers(t, m, 5, 1, now, api.OK)
			checkAnswers(t, m, 5, 0, 0, api.ErrAsk)
		})
	}
	asks(0, 0, 0)
	comes(t, m, ev(api.EvSignal, 0, 30), ev(api.EvSignal, 0, 31))
	asks(0, 0, 2)
	checkTask(t, m, 5, 0, "task 3")
	asks(31, 5, 0)
	comes(t, m, ev(api.EvSignal, 0, 32), ev(api.EvStopped, 1))
	asks(31, 5, 1)
	checkAnswers(t, checkMade(t, with("push 4 store 0 arg ret", query(0, "load 0 ret")), "completed 7"), 0, 0, 4, api.OK)
}

// P16.5: queries between all else change nothing of what comes.
func TestQueriesChangeNothing(t *testing.T) {
	p := with("push 3 act 0 await attr 0 attr 1 draw ret", query(0, "arg push 1 add ret"), query(1, "jump 0"), query(2, "pop ret"))
	play := func(ask func(m *vm.Machine)) string {
		m := begun(t, p, 7)
		ask(m)
		a, _ := m.Task(5, 3)
		ask(m)
		comes(t, m, ev(api.EvDone, 3, 8, 1))
		ask(m)
		b, _ := m.Task(6, 3)
		ask(m)
		return says(append(a, b...))
	}
	asked := play(func(m *vm.Machine) {
		for range 2000 {
			checkAnswers(t, m, 0, 4, 5, api.OK)
		}
		checkAnswers(t, m, 1, 4, 0, api.ErrAsk)
		checkAnswers(t, m, 2, 4, 0, api.ErrAsk)
	})
	if want := play(func(*vm.Machine) {}); asked != want {
		t.Errorf("%s, want %s", asked, want)
	}
}
