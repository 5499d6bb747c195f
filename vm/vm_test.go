package vm_test

import (
	"fmt"
	"math"
	"reflect"
	"slices"
	"strconv"
	"strings"
	"testing"

	"tapestry/api"
	"tapestry/code"
	"tapestry/event"
	"tapestry/vm"
)

// text are instructions by their names, each with its operand behind it, if it has one.
func text(s string) []api.Op {
	var l []api.Op
	words := strings.Fields(s)
	for i := 0; i < len(words); i++ {
		op := api.Op{Code: slices.Index(opNames, words[i])}
		if op.Code < 0 {
			panic("no instruction: " + words[i])
		}
		if code.Operand(op.Code) {
			i++
			a, err := strconv.ParseInt(words[i], 0, 64)
			if err != nil {
				panic("no operand: " + words[i])
			}
			op.A = a
		}
		l = append(l, op)
	}
	return l
}

// times is a text so many times.
func times(n int, s string) string { return strings.Repeat(s+" ", n) }

// with is a program of a function 0, and others behind it.
func with(main string, more ...api.Func) api.Program {
	return api.Program{Funcs: append([]api.Func{{Ops: text(main)}}, more...), Opts: []api.Opts{{Num: 1, Den: 1}, {Num: 1, Den: 1, Queue: 2}}}
}

func sub(s string) api.Func { return api.Func{Kind: api.FnSub, Ops: text(s)} }

func query(name int, s string) api.Func {
	return api.Func{Kind: api.FnQuery, Name: name, Ops: text(s)}
}

func update(name int, s string) api.Func {
	return api.Func{Kind: api.FnUpdate, Name: name, Ops: text(s)}
}

func check(name int, s string) api.Func {
	return api.Func{Kind: api.FnCheck, Name: name, Ops: text(s)}
}

// ev is an event, but for its Id and its Time.
func ev(kind int, l ...int64) api.Event {
	e := api.Event{Kind: kind}
	for i, n := range l {
		*[]*int64{&e.A, &e.B, &e.C, &e.D, &e.E, &e.F}[i] = n
	}
	return e
}

// made is a machine of a program that may be.
func made(t *testing.T, p api.Program) *vm.Machine {
	t.Helper()
	m, err := vm.New(p)
	if m == nil || err != api.OK {
		t.Fatalf("New: %v %d", m, err)
	}
	return m
}

// begun is a machine that has seen its EvStarted.
func begun(t *testing.T, p api.Program, input int64) *vm.Machine {
	t.Helper()
	m := made(t, p)
	comes(t, m, ev(api.EvStarted, 0, input))
	return m
}

// comes lets events from outside come, whose Ids are the next ones.
func comes(t *testing.T, m *vm.Machine, l ...api.Event) {
	t.Helper()
	for _, e := range l {
		n, _ := m.Count()
		e.Id = n + 1
		if err := m.Apply(e); err != api.OK {
			t.Fatalf("Apply of %v: %d", e, err)
		}
	}
}

// says are events as a text: each one's kind and numbers.
func says(l []api.Event) string {
	var all []string
	for _, e := range l {
		s := kindNames[e.Kind]
		for _, n := range []int64{e.A, e.B, e.C, e.D, e.E, e.F}[:event.Fields(e.Kind)] {
			s += " " + strconv.FormatInt(n, 10)
		}
		all = append(all, s)
	}
	return strings.Join(all, ", ")
}

// checkTask: what a task makes, and that it is at its time, and seen.
func checkTask(t *testing.T, m *vm.Machine, now, draw int64, want string) []api.Event {
	t.Helper()
	n, _ := m.Count()
	l, err := m.Task(now, draw)
	if got := says(l); err != api.OK || got != want {
		t.Errorf("Task(%d, %d): %s %d, want %s", now, draw, got, err, want)
	}
	for i, e := range l {
		if e.Id != n+1+i || e.Time != now {
			t.Errorf("Task(%d, %d): the event %d has the Id %d, the Time %d", now, draw, i, e.Id, e.Time)
		}
	}
	closes := len(l) > 0 && event.Closing(l[len(l)-1].Kind)
	if seen, over := m.Count(); seen != n+len(l) || over != closes {
		t.Errorf("Count behind %d events: %d %v", n+len(l), seen, over)
	}
	return l
}

// checkMade: what the first task of a program makes at the time 5, with the input 7, behind the EvTask.
func checkMade(t *testing.T, p api.Program, want string) *vm.Machine {
	t.Helper()
	m := begun(t, p, 7)
	if want != "" {
		want = ", " + want
	}
	checkTask(t, m, 5, 0, "task 1"+want)
	return m
}

// checkAnswers: what Query answers.
func checkAnswers(t *testing.T, m *vm.Machine, name int, arg, want int64, no api.Errno) {
	t.Helper()
	if v, err := m.Query(name, arg); v != want || err != no {
		t.Errorf("Query(%d, %d): %d %d, want %d %d", name, arg, v, err, want, no)
	}
}

// checkLook: how a machine stands.
func checkLook(t *testing.T, m *vm.Machine, want api.Look) {
	t.Helper()
	if want.Signals == nil {
		want.Signals = make([][]int64, 8)
	}
	if want.Scopes == nil {
		want.Scopes = []api.Scope{{Parent: -1}}
	}
	if got := bare(m.Look()); !reflect.DeepEqual(got, want) {
		t.Errorf("Look: %+v, want %+v", got, want)
	}
}

// unchanged: does something, behind which a machine stands as ahead of it.
func unchanged(t *testing.T, m *vm.Machine, what string, do func()) {
	t.Helper()
	// As a text, so that nothing of it can be written over.
	was := fmt.Sprintf("%+v", m.Look())
	n, over := m.Count()
	do()
	if is := fmt.Sprintf("%+v", m.Look()); is != was {
		t.Errorf("%s: it is %s, was %s", what, is, was)
	}
	if k, o := m.Count(); k != n || o != over {
		t.Errorf("%s: Count is %d %v, was %d %v", what, k, o, n, over)
	}
}

// P16.1, P16.6.
func TestNew(t *testing.T) {
	p := with("arg ret")
	m := made(t, p)
	checkLook(t, m, api.Look{})
	if n, over := m.Count(); n != 0 || over {
		t.Errorf("Count: %d %v", n, over)
	}
	if l := m.Look().Signals; len(l) != 8 {
		t.Errorf("Signals: %v", l)
	}
	for _, p := range []api.Program{{}, with("arg"), with("arg ret", sub("pop")), with("arg ret", check(0, "arg ret")), with("act 2 ret"), {Funcs: []api.Func{{Kind: 1, Ops: text("arg ret")}}}, with("arg ret", query(0, "draw ret"))} {
		if m, err := vm.New(p); m != nil || err != api.ErrProgram {
			t.Errorf("New of what may not be: %v %d", m, err)
		}
	}
}

// R3: a program that was handed in is neither changed nor kept.
func TestNewKeepsNothing(t *testing.T) {
	p := with("arg ret", query(1, "arg ret"))
	q := with("arg ret", query(1, "arg ret"))
	m := begun(t, p, 7)
	p.Funcs[0].Ops[0] = api.Op{Code: api.OpPush, A: 9}
	p.Funcs[1].Kind = api.FnSub
	p.Funcs[1].Ops[0] = api.Op{Code: api.OpNow}
	p.Opts[0] = api.Opts{}
	checkAnswers(t, m, 1, 3, 3, api.OK)
	checkTask(t, m, 5, 0, "task 1, completed 7")
	r, _, _ := vm.Replay(q, []api.Event{{Id: 1, Kind: 1, B: 7}})
	was := with("arg ret", query(1, "arg ret"))
	if !reflect.DeepEqual(q, was) {
		t.Error("a program has been changed")
	}
	q.Funcs[0].Ops[0] = api.Op{Code: api.OpPush, A: 9}
	checkTask(t, r, 5, 0, "task 1, completed 7")
}

// R1: a machine that is none.
func TestNil(t *testing.T) {
	for _, m := range []*vm.Machine{nil, {}} {
		for _, e := range []api.Event{{Id: 1, Kind: 1}, {}, {Id: 2, Kind: 19}} {
			if err := m.Apply(e); err != api.ErrInput {
				t.Errorf("Apply: %d", err)
			}
		}
		for _, now := range []int64{0, -1, math.MaxInt64} {
			if l, err := m.Task(now, 0); len(l) != 0 || err != api.ErrInput {
				t.Errorf("Task: %v %d", l, err)
			}
		}
		if v, err := m.Query(0, 1); v != 0 || err != api.ErrAsk {
			t.Errorf("Query: %d %d", v, err)
		}
		if look := m.Look(); !reflect.DeepEqual(look, api.Look{}) {
			t.Errorf("Look: %v", look)
		}
		if n, over := m.Count(); n != 0 || over {
			t.Errorf("Count: %d %v", n, over)
		}
	}
}

// R3: what Look and Task answer is new memory, its spare room, too.
func TestNewMemory(t *testing.T) {
	p := with("push 1 scope enter push 2 act 0 pop push 3 go 1 pop push 4 push 5 wait 3", sub("push 6 push 7 wait 3 ret"), query(0, "signals 2 ret"))
	p.Funcs[0].Ops = append(p.Funcs[0].Ops, text("jump 0")...)
	m := begun(t, p, 0)
	comes(t, m, ev(api.EvSignal, 2, 11), ev(api.EvSignal, 2, 12), ev(api.EvSignal, 4, 13))
	l := checkTask(t, m, 1, 0, "task 4, activity 0 2")
	clear(l[:cap(l)])
	want := bare(m.Look())
	unchanged(t, m, "a Look that was changed", func() {
		look := m.Look()
		for i := range look.Threads {
			stack := look.Threads[i].Stack
			stack = stack[:cap(stack)]
			for k := range stack {
				stack[k] = 99
			}
		}
		for i := range look.Signals {
			l := look.Signals[i]
			l = l[:cap(l)]
			for k := range l {
				l[k] = 99
			}
		}
		if len(look.Threads) != 2 || len(look.Futures) != 2 || len(look.Scopes) != 2 {
			t.Errorf("%v", look)
		}
		clear(look.Threads[:cap(look.Threads)])
		clear(look.Futures[:cap(look.Futures)])
		clear(look.Scopes[:cap(look.Scopes)])
		clear(look.Signals[:cap(look.Signals)])
	})
	// Lists of one answer share no memory either.
	look := m.Look()
	for i := range look.Signals {
		look.Signals[i] = append(look.Signals[i], 99)
	}
	for i := range look.Threads {
		look.Threads[i].Stack = append(look.Threads[i].Stack, 99)
	}
	for i := range look.Signals {
		look.Signals[i] = look.Signals[i][:len(look.Signals[i])-1]
	}
	for i := range look.Threads {
		look.Threads[i].Stack = look.Threads[i].Stack[:len(look.Threads[i].Stack)-1]
	}
	if got := bare(look); !reflect.DeepEqual(got, want) {
		t.Errorf("%v, want %v", got, want)
	}
}
