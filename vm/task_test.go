package vm_test

import (
	"math"
	"strconv"
	"strings"
	"testing"

	"tapestry/api"
)

// P16.3: which errors there are, and that nothing changes with them.
func TestTaskRefuses(t *testing.T) {
	refuse := func(m interface {
		Task(now, draw int64) ([]api.Event, api.Errno)
	}, now int64, no api.Errno) {
		t.Helper()
		if l, err := m.Task(now, 0); len(l) != 0 || err != no {
			t.Errorf("Task(%d): %v %d, want %d", now, l, err, no)
		}
	}
	m := made(t, with("wait 0 ret"))
	unchanged(t, m, "nothing seen", func() {
		for _, now := range []int64{0, 5, 1 << 40} {
			refuse(m, now, api.ErrEvent)
		}
		for _, now := range []int64{-1, 1<<40 + 1, math.MinInt64, math.MaxInt64} {
			refuse(m, now, api.ErrInput)
		}
	})
	comes(t, m, ev(api.EvStarted), ev(api.EvCancel), ev(api.EvUpdate, 3, 1))
	unchanged(t, m, "times that may not be", func() {
		for _, now := range []int64{-1, 1<<40 + 1, math.MinInt64, math.MaxInt64} {
			refuse(m, now, api.ErrInput)
		}
	})
	// What has come is looked at by the next task, even so; the times may be any, also such as go back.
	checkTask(t, m, 1<<40, 0, "task 3, reject 3 50")
	checkTask(t, m, 0, 0, "task 5")
	for n, _ := m.Count(); n < 254; n++ {
		comes(t, m, ev(api.EvSignal, 1, 1))
	}
	checkTask(t, m, 9, 0, "task 254")
	unchanged(t, m, "too many seen", func() {
		refuse(m, 9, api.ErrLimit)
		refuse(m, -1, api.ErrInput)
	})
	comes(t, m, ev(api.EvSignal, 1, 1))
	unchanged(t, m, "too many seen", func() { refuse(m, 9, api.ErrLimit) })
	m = begun(t, with("wait 0 ret"), 0)
	for range 254 {
		comes(t, m, ev(api.EvSignal, 1, 1))
	}
	refuse(m, 9, api.ErrLimit)
	comes(t, m, ev(api.EvTimedOut))
	refuse(m, 9, api.ErrClosed)
	refuse(m, -1, api.ErrClosed)
}

// The chapter's examples.
func TestExamples(t *testing.T) {
	m := begun(t, with("arg ret"), 7)
	checkTask(t, m, 5, 0, "task 1, completed 7")
	m = begun(t, with("push 3 timer await pop ret"), 0)
	checkTask(t, m, 5, 0, "task 1, timer 8")
	comes(t, m, ev(api.EvFired, 3))
	checkTask(t, m, 9, 0, "task 4, completed 0")
	checkMade(t, with("jump 0"), "failed -1")
	checkMade(t, with("pop push 1 ret"), "failed -2")
}

// spends is a function that does just so many instructions (20 and up), of which the last ones are: push 1, and what is told.
func spends(n int, last string) string {
	// A loop of 5 a time (the last time 4), with one ahead of it.
	around := 1 + len(text(last))
	loops := (n - around) / 5
	s := "push " + strconv.Itoa(loops) + " push 1 sub dup jumpz 6 jump 1 "
	for i := range n - around - 5*loops {
		s += "jump " + strconv.Itoa(7+i) + " "
	}
	return s + "push 1 " + last
}

// 'Fuel': how many instructions a task may do.
func TestFuel(t *testing.T) {
	for _, n := range []int{990, 996, 997, 998, 999, 1000} {
		checkMade(t, with(spends(n, "ret")), "completed 1")
		checkMade(t, with(spends(n, "attr 0 wait 0 ret")), map[bool]string{true: "attr 0 1", false: "attr 0 1, failed -1"}[n <= 1001])
	}
	for _, n := range []int{1001, 1002, 1007, 2000} {
		m := checkMade(t, with(spends(n, "ret")), "failed -1")
		if len(m.Look().Threads) != 0 {
			t.Error("threads, though it is over")
		}
	}
	// The last one that is done may make a command, and may wait; ahead of the next one it fails.
	checkMade(t, with(spends(1002, "attr 0 wait 0 ret")), "attr 0 1, failed -1")
	checkMade(t, with(spends(1001, "attr 0 wait 0 ret")), "attr 0 1")
	checkMade(t, with(spends(1000, "fail")), "failed 1")
	checkMade(t, with(spends(1000, "again")), "again 1 0")
	checkMade(t, with(spends(1001, "fail")), "failed -1")
	checkMade(t, with("yield jump 0"), "failed -1")
	// All threads, all passes and all checks of a task count.
	checkMade(t, with("push 2 go 1 pop yield arg ret", sub(spends(996, "attr 0 wait 0 ret"))), "attr 0 1, failed -1")
	checkMade(t, with("push 2 go 1 pop yield arg ret", sub(spends(995, "attr 0 wait 0 ret"))), "attr 0 1, completed 7")
	checked := with("wait 0 ret", update(1, "arg ret"), check(1, spends(994, "pop push 0 ret")), check(2, spends(500, "pop push 0 ret")), update(2, "arg ret"), check(3, spends(501, "pop push 0 ret")), update(3, "arg ret"))
	m := begun(t, checked, 0)
	comes(t, m, ev(api.EvUpdate, 1, 8))
	checkTask(t, m, 5, 0, "task 2, accept 2, answer 2 8 0")
	comes(t, m, ev(api.EvUpdate, 2, 8), ev(api.EvUpdate, 2, 9))
	checkTask(t, m, 5, 0, "task 7, accept 6, accept 7, failed -1")
	m = begun(t, checked, 0)
	comes(t, m, ev(api.EvUpdate, 3, 8), ev(api.EvUpdate, 3, 9))
	checkTask(t, m, 5, 0, "task 3, accept 2, failed -1")
	m = begun(t, with("wait 0 ret", update(1, "arg ret"), check(1, "jump 0")), 0)
	comes(t, m, ev(api.EvUpdate, 1, 8), ev(api.EvUpdate, 0, 8))
	checkTask(t, m, 5, 0, "task 3, failed -1")
}

// 'Fuel': each task has its own, and a query has its own.
func TestFuelAnew(t *testing.T) {
	m := begun(t, with(spends(998, "jump 0"), query(0, "jump 0"), query(1, "arg ret")), 7)
	checkTask(t, m, 5, 0, "task 1, failed -1")
	m = begun(t, with(strings.TrimSuffix(spends(990, "ret"), "push 1 ret")+"wait 0 pop jump 0", query(0, "jump 0"), query(1, spends(1000, "ret")), query(2, spends(1001, "ret"))), 7)
	for i := range int64(20) {
		checkAnswers(t, m, 0, 0, 0, api.ErrAsk)
		checkAnswers(t, m, 1, 0, 1, api.OK)
		checkAnswers(t, m, 2, 0, 0, api.ErrAsk)
		checkTask(t, m, i, 0, "task "+strconv.FormatInt(2*i+1, 10))
		comes(t, m, ev(api.EvSignal, 0, 1))
	}
}

// 'A task', 2: it was asked to cancel.
func TestAskedToCancel(t *testing.T) {
	m := begun(t, with("push 1 act 0 pop push 2 timer pop push 3 child 0 pop push 4 go 1 pop scope enter push 5 act 1 pop cancelled attr 0 wait 0 pop cancelled attr 1 push 6 act 0 await attr 2 attr 3 arg fail", sub("wait 1 ret")), 7)
	checkTask(t, m, 5, 0, "task 1, activity 0 1, timer 7, child 0 3, activity 1 5, attr 0 0")
	comes(t, m, ev(api.EvCancel), ev(api.EvSignal, 0, 1), ev(api.EvCancel))
	checkTask(t, m, 6, 0, "task 10, undoact 3, undotimer 4, undochild 5, undoact 6, attr 1 1, attr 2 3, attr 3 0, canceled 7")
	look := m.Look()
	want := []api.Future{{Kind: 3, Event: 3, Done: true, Status: 3}, {Kind: 4, Event: 4, Done: true, Status: 3}, {Kind: 5, Event: 5}, {}, {Kind: 3, Event: 6, Scope: 1, Done: true, Status: 3}, {Kind: 3, Scope: 1, Done: true, Status: 3}}
	for i := range want {
		if look.Futures[i] != want[i] {
			t.Errorf("%v, want %v", look.Futures, want)
		}
	}
	if l := look.Scopes; len(l) != 2 || !l[0].Cancelled || l[1].Cancelled {
		t.Errorf("%v", l)
	}
	// Once is enough; and only since its last task.
	m = begun(t, with("wait 0 pop push 1 child 0 pop push 0 cancel push 2 child 1 pop jump 0"), 7)
	comes(t, m, ev(api.EvSignal, 0, 1))
	checkTask(t, m, 5, 0, "task 2, child 0 1, undochild 4")
	comes(t, m, ev(api.EvCancel), ev(api.EvSignal, 0, 1))
	checkTask(t, m, 5, 0, "task 7")
	// A child that has ended isn't told; one that hasn't is, and says itself how it ends.
	m = begun(t, with("push 1 child 0 pop push 2 child 0 await attr 0 attr 1 push 3 store 0 wait 0 ret"), 7)
	checkTask(t, m, 5, 0, "task 1, child 0 1, child 0 2")
	comes(t, m, ev(api.EvBorn, 3, 2), ev(api.EvChildEnd, 3, 1, 0), ev(api.EvCancel))
	checkTask(t, m, 5, 0, "task 7, undochild 4")
	comes(t, m, ev(api.EvBorn, 4, 3), ev(api.EvChildEnd, 4, 8, 3), ev(api.EvCancel))
	checkTask(t, m, 5, 0, "task 12, attr 0 3, attr 1 8")
}

// OpScope, OpEnter, OpCancel, OpCancelled: scopes in one another.
func TestScopes(t *testing.T) {
	// The scope 1 stands in 0, 2 in 1, 3 in 0; an activity in each, made in the order 2, 0, 3, 1.
	const nest = "scope enter scope enter push 2 act 0 pop push 0 enter push 0 act 0 pop scope enter push 3 act 0 pop push 1 enter push 1 act 0 pop "
	const acts = "activity 0 2, activity 0 0, activity 0 3, activity 0 1"
	for _, x := range [][2]string{
		{"push 0 cancel", ", undoact 3, undoact 4, undoact 5, undoact 6"},
		{"push 1 cancel", ", undoact 3, undoact 6"},
		{"push 2 cancel", ", undoact 3"},
		{"push 3 cancel", ", undoact 5"},
		{"push 1 cancel push 1 cancel", ", undoact 3, undoact 6"},
		{"push 1 cancel push 2 cancel push 0 cancel", ", undoact 3, undoact 6, undoact 4, undoact 5"},
		{"push 2 cancel push 1 cancel", ", undoact 3, undoact 6"},
	} {
		checkMade(t, with(nest+x[0]+" arg ret"), acts+x[1]+", completed 7")
	}
	m := checkMade(t, with(nest+"push 3 enter scope pop push 1 cancel wait 0 ret"), acts+", undoact 3, undoact 6")
	for i, s := range []api.Scope{{Parent: -1}, {Parent: 0, Cancelled: true}, {Parent: 1}, {Parent: 0}, {Parent: 3}} {
		if got := m.Look().Scopes[i]; got != s {
			t.Errorf("scope %d: %v, want %v", i, got, s)
		}
	}
	// Who is in a scope that is cancelled, by its own or by another one that it stands in.
	for _, x := range [][2]string{{"push 0 cancel", "1111"}, {"push 1 cancel", "0110"}, {"push 2 cancel", "0010"}, {"push 3 cancel", "0001"}} {
		asks, want := "", []string{}
		for s := range 4 {
			asks += "push " + strconv.Itoa(s) + " enter cancelled attr " + strconv.Itoa(s) + " "
			want = append(want, "attr "+strconv.Itoa(s)+" "+x[1][s:s+1])
		}
		got := begun(t, with(nest+x[0]+" "+asks+"arg ret"), 7)
		l, _ := got.Task(5, 0)
		if s := says(l); !strings.HasSuffix(s, strings.Join(want, ", ")+", completed 7") {
			t.Errorf("%s: %s", x[0], s)
		}
	}
	// Failing is being canceled just if the scope 0 is.
	checkMade(t, with("push 0 cancel arg fail"), "canceled 7")
	checkMade(t, with("push 0 cancel arg ret"), "completed 7")
	checkMade(t, with("scope dup enter cancel cancelled attr 0 arg fail"), "attr 0 1, failed 7")
	checkMade(t, with("push 0 cancel pop ret"), "failed -2")
	checkMade(t, with("push 0 cancel push 1 go 1 await attr 0 pop wait 0 ret", sub("cancelled fail")), "attr 0 1")
	// What is made in one that is cancelled: nothing is asked for. A thread is made, even so.
	m = checkMade(t, with("scope dup enter cancel push 1 act 1 pop push 2 timer pop push 3 child 4 pop push 4 go 1 pop push 1 await attr 0 attr 1 push 0 enter push 5 act 0 wait 0 ret", sub("wait 1 ret")), "attr 0 3, attr 1 0, activity 0 5")
	for i, f := range []api.Future{{Kind: 3, Scope: 1, Done: true, Status: 3}, {Kind: 4, Scope: 1, Done: true, Status: 3}, {Kind: 5, Scope: 1, Done: true, Status: 3}, {Scope: 1}, {Kind: 3, Event: 5}} {
		if got := m.Look().Futures[i]; got != f {
			t.Errorf("future %d: %v, want %v", i, got, f)
		}
	}
	// In a scope that is entered only later a future stays where it was made.
	checkMade(t, with("scope store 0 push 1 act 0 pop load 0 enter push 2 act 0 pop load 0 cancel arg ret"), "activity 0 1, activity 0 2, undoact 4, completed 7")
	// A child is told once; what is done already isn't undone.
	checkMade(t, with("scope enter push 1 child 0 pop push 1 cancel push 0 cancel arg ret"), "child 0 1, undochild 3, completed 7")
	m = begun(t, with("push 1 act 0 pop push 1 act 0 pop wait 0 pop push 0 cancel arg ret"), 7)
	checkTask(t, m, 5, 0, "task 1, activity 0 1, activity 0 1")
	comes(t, m, ev(api.EvDone, 3, 9, 1), ev(api.EvSignal, 0, 1))
	checkTask(t, m, 5, 0, "task 6, undoact 4, completed 7")
	// A thread that waits for what is undone goes on.
	checkMade(t, with("push 1 timer go 1 pop yield push 0 cancel wait 0 ret", sub("arg await attr 0 attr 1 wait 0 ret")), "timer 6, undotimer 3, attr 0 3, attr 1 0")
}

// 'A task', 3: updates.
func TestUpdates(t *testing.T) {
	p := with("wait 0 pop jump 0",
		update(0, "arg store 0 load 0 ret"), check(0, "load 0 arg lt not ret"),
		update(1, "arg fail"), check(1, "arg fail"),
		update(2, "cancelled attr 0 arg attr 1 wait 1 add fail"),
		update(4, "arg fail"),
		check(3, "pop push 0 ret"), update(3, "arg ret"),
		check(5, "now signals 0 add arg sub ret"), update(5, "now ret"))
	m := begun(t, p, 7)
	comes(t, m, ev(api.EvUpdate, 0, 8), ev(api.EvUpdate, 0, 0), ev(api.EvUpdate, 0, -1), ev(api.EvUpdate, 0, 9))
	checkTask(t, m, 5, 0, "task 5, accept 2, reject 3 1, reject 4 1, accept 5, answer 2 8 0, answer 5 9 0")
	comes(t, m, ev(api.EvUpdate, 0, 9), ev(api.EvUpdate, 0, 10))
	checkTask(t, m, 5, 0, "task 14, reject 13 1, accept 14, answer 14 10 0")
	// A check that fails, also with 0, and one that faults.
	m = begun(t, p, 7)
	comes(t, m, ev(api.EvUpdate, 1, 8), ev(api.EvUpdate, 1, 0), ev(api.EvUpdate, 1, -5), ev(api.EvUpdate, 3, 1), ev(api.EvUpdate, 4, 6), ev(api.EvUpdate, 6, 6), ev(api.EvUpdate, 7, 6))
	checkTask(t, m, 5, 0, "task 8, reject 2 8, reject 3 0, reject 4 -5, reject 5 -2, accept 6, reject 7 50, reject 8 50, answer 6 6 1")
	// A check sees the task's time, and signals that weren't taken.
	m = begun(t, p, 7)
	comes(t, m, ev(api.EvSignal, 0, 1), ev(api.EvSignal, 0, 1), ev(api.EvUpdate, 5, 11), ev(api.EvUpdate, 5, 10))
	checkTask(t, m, 9, 0, "task 5, accept 4, reject 5 1, answer 4 9 0")
	// The threads of updates: in the scope 0, which may be cancelled ahead of them.
	m = begun(t, p, 7)
	comes(t, m, ev(api.EvUpdate, 2, 5), ev(api.EvCancel))
	checkTask(t, m, 9, 0, "task 3, accept 2, attr 0 1, attr 1 5")
	checkLook(t, m, api.Look{Now: 9, Attrs: [4]int64{1, 5}, Scopes: []api.Scope{{Parent: -1, Cancelled: true}}, Threads: []api.Thread{
		{Arg: 7, Future: -1, Waits: -1, Signal: 0},
		{Func: 5, At: 4, Arg: 5, Future: -1, Update: 2, Waits: -1, Signal: 1},
	}})
	comes(t, m, ev(api.EvSignal, 1, 9))
	checkTask(t, m, 9, 0, "task 8, failed -2")
	m = begun(t, with("scope enter wait 0 ret", update(7, "cancelled attr 0 arg wait 1 add fail")), 7)
	comes(t, m, ev(api.EvUpdate, 7, 5))
	checkTask(t, m, 9, 0, "task 2, accept 2, attr 0 0")
	comes(t, m, ev(api.EvSignal, 1, 9), ev(api.EvSignal, 1, 10))
	checkTask(t, m, 10, 0, "task 7, answer 2 14 1")
	if l := m.Look().Threads; len(l) != 1 {
		t.Errorf("%v", l)
	}
	// The first thread goes on first, though it ends it.
	m = begun(t, with("arg ret", update(0, "arg ret")), 7)
	comes(t, m, ev(api.EvUpdate, 0, 5))
	checkTask(t, m, 9, 0, "task 2, accept 2, completed 7")
}

// 'A task', 3: there may be too many threads for an update.
func TestManyUpdates(t *testing.T) {
	for _, n := range []int{14, 15, 16, 20} {
		m := begun(t, with("wait 0 ret", update(0, "arg ret"), check(0, "push 0 ret")), 7)
		for range n {
			comes(t, m, ev(api.EvUpdate, 0, 5))
		}
		l, err := m.Task(3, 0)
		got := says(l)
		if n <= 15 {
			if want := "answer " + strconv.Itoa(n+1) + " 5 0"; err != api.OK || !strings.HasSuffix(got, want) {
				t.Errorf("%d updates: %s", n, got)
			}
		} else if len(l) != 17 || !strings.HasSuffix(got, "accept 16, failed -3") {
			t.Errorf("%d updates: %s", n, got)
		}
	}
	// It is asked ahead of the EvAccept, and of whether there is room for that; behind the check.
	many := with(times(15, "push 0 go 1 pop")+"wait 0 ret", sub("wait 1 ret"), update(0, "arg ret"), check(0, "arg ret"))
	m := begun(t, many, 7)
	checkTask(t, m, 3, 0, "task 1")
	comes(t, m, ev(api.EvUpdate, 0, 5), ev(api.EvUpdate, 1, 0))
	checkTask(t, m, 3, 0, "task 4, reject 3 5, reject 4 50")
	for n, _ := m.Count(); n < 253; n++ {
		comes(t, m, ev(api.EvSignal, 2, 5))
	}
	comes(t, m, ev(api.EvUpdate, 0, 0))
	checkTask(t, m, 3, 0, "task 254, failed -3")
}

// filledUp is a machine that has seen so many events, the last ones signals of the name 7, with some behind them.
func filledUp(t *testing.T, p api.Program, seen int, last ...api.Event) []api.Event {
	t.Helper()
	m := begun(t, p, 7)
	m.Task(0, 0)
	for n, _ := m.Count(); n < seen-len(last); n++ {
		comes(t, m, ev(api.EvSignal, 7, 1))
	}
	comes(t, m, last...)
	l, err := m.Task(3, 0)
	if err != api.OK {
		t.Errorf("Task: %d", err)
	}
	n, over := m.Count()
	if over && n > 256 || !over && n > 255 {
		t.Errorf("%d events", n)
	}
	return l
}

// 'Commands': there may be no room for one.
func TestFull(t *testing.T) {
	// Behind the signal 6 the program makes a command of each kind, again and again.
	for _, x := range []struct {
		makes string
		kind  int
	}{
		{"push 1 act 0 pop", 3}, {"push 1 timer pop", 4}, {"push 1 child 0 pop", 5}, {"push 0 push 1 tell 0", 9}, {"push 1 attr 0", 10}, {"draw pop", 11},
	} {
		p := with("push 1 child 0 pop wait 6 pop " + times(5, x.makes) + "wait 0 ret")
		for seen := 246; seen <= 254; seen++ {
			l := filledUp(t, p, seen, ev(api.EvSignal, 6, 1))
			room := min(254-seen, 5)
			want := "task " + strconv.Itoa(seen)
			count := 0
			for _, e := range l {
				if e.Kind == x.kind {
					count++
				}
			}
			last := l[len(l)-1]
			full := last.Kind == 16 && last.A == -4
			if says(l[:1]) != want || count != room || full != (room < 5) || full && last.Id != 256 || len(l) != 1+room+map[bool]int{true: 1}[full] {
				t.Errorf("%s behind %d: %s", x.makes, seen, says(l))
			}
		}
	}
	for seen := 250; seen <= 254; seen++ {
		s := strconv.Itoa(seen)
		// What closes always has room.
		for _, x := range [][2]string{{"ret", "completed 1"}, {"fail", "failed 1"}, {"again", "again 1 0"}} {
			if got, want := says(filledUp(t, with("wait 6 "+x[0]), seen, ev(api.EvSignal, 6, 1))), "task "+s+", "+x[1]; got != want {
				t.Errorf("%s behind %d: %s", x[0], seen, got)
			}
		}
		// What isn't any program's instruction.
		room := 254 - seen
		undo := filledUp(t, with("push 1 act 0 pop push 1 timer pop push 1 child 0 pop wait 0 ret"), seen, ev(api.EvCancel))
		if got, want := says(undo), "task "+s+strings.Join([]string{"", ", undoact 3", ", undotimer 4", ", undochild 5"}[:min(room, 3)+1], "")+map[bool]string{true: ", failed -4"}[room < 3]; got != want {
			t.Errorf("cancelled behind %d: %s", seen, got)
		}
		p := with("wait 0 ret", update(0, "arg ret"))
		rejected := filledUp(t, p, seen, ev(api.EvUpdate, 1, 1))
		if got, want := says(rejected), "task "+s+map[bool]string{true: ", reject " + s + " 50", false: ", failed -4"}[room > 0]; got != want {
			t.Errorf("rejected behind %d: %s", seen, got)
		}
		accepted := filledUp(t, p, seen, ev(api.EvUpdate, 0, 1))
		want := "task " + s + ", failed -4"
		if room == 1 {
			want = "task " + s + ", accept " + s + ", failed -4"
		} else if room > 1 {
			want = "task " + s + ", accept " + s + ", answer " + s + " 1 0"
		}
		if got := says(accepted); got != want {
			t.Errorf("accepted behind %d: %s", seen, got)
		}
	}
}

// 'Commands': one that isn't made does nothing either.
func TestFullDoesNothingElse(t *testing.T) {
	up := func(p api.Program, last api.Event) api.Look {
		m := begun(t, p, 7)
		m.Task(0, 0)
		for n, _ := m.Count(); n < 253; n++ {
			comes(t, m, ev(api.EvSignal, 7, 1))
		}
		comes(t, m, last)
		checkTask(t, m, 3, 0, "task 254, failed -4")
		return m.Look()
	}
	look := up(with("wait 6 attr 1 wait 0 ret"), ev(api.EvSignal, 6, 5))
	if look.Attrs != [4]int64{} {
		t.Errorf("Attrs: %v", look.Attrs)
	}
	look = up(with("wait 6 act 1 wait 0 ret"), ev(api.EvSignal, 6, 5))
	if len(look.Futures) != 0 {
		t.Errorf("Futures: %v", look.Futures)
	}
	look = up(with("push 1 act 1 wait 0 ret"), ev(api.EvCancel))
	if len(look.Futures) != 1 || look.Futures[0].Done || !look.Scopes[0].Cancelled {
		t.Errorf("%v", look)
	}
}

// 'A task', 1: NOW is the last one's time, whatever came behind it.
func TestNow(t *testing.T) {
	m := begun(t, with("wait 0 pop now attr 0 jump 0", query(0, "now ret")), 0)
	checkAnswers(t, m, 0, 0, 0, api.OK)
	for _, now := range []int64{4, 9, 1 << 40, 0} {
		comes(t, m, api.Event{Kind: 19, Time: now / 2})
		n, _ := m.Count()
		checkTask(t, m, now, 0, "task "+strconv.Itoa(n)+", attr 0 "+number(now))
		checkAnswers(t, m, 0, 0, now, api.OK)
		if m.Look().Now != now {
			t.Errorf("Now: %d", m.Look().Now)
		}
	}
}
