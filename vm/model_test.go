package vm_test

import (
	"slices"

	"tapestry/api"
	"tapestry/code"
	"tapestry/codec"
	"tapestry/event"
	"tapestry/grammar"
)

// model is a machine by the chapter's words, with its threads as pointers, of which those that have ended are left out.
type model struct {
	p       api.Program
	look    api.Look // but for its Threads
	threads []*api.Thread
	ended   []*api.Thread
	updates []api.Event
	asked   bool
	seen    int
	fuel    int
	made    []api.Event
	value   func(k, id int) int64
	draws   int
	told    *counts
}

// counts are how often what came to pass: instructions, and all else by names.
type counts struct {
	ops  [38]int
	what map[string]int
}

// newCounts are none.
func newCounts() *counts { return &counts{what: map[string]int{}} }

// left is the panic by which a task of the model is left at once.
type left struct{}

// broke is the panic by which a function of the model is left that faults, or is out of fuel.
type broke struct{ why int64 }

// newModel is one that has seen nothing.
func newModel(p api.Program, told *counts) *model {
	m := &model{p: p, told: told}
	m.look.Scopes = []api.Scope{{Parent: -1}}
	m.look.Signals = make([][]int64, 8)
	return m
}

// apply takes an event from outside, which may come.
func (m *model) apply(e api.Event) {
	m.seen++
	m.told.what["event "+kindNames[e.Kind]]++
	switch e.Kind {
	case 1:
		m.threads = append(m.threads, &api.Thread{Arg: e.B, Future: -1, Waits: -1, Signal: -1})
	case 16, 30, 31:
		m.look.Over = true
	case 19:
		m.look.Signals[e.A] = append(m.look.Signals[e.A], e.B)
	case 20:
		m.asked = true
	case 21:
		m.updates = append(m.updates, e)
	case 22, 23, 24, 25, 27, 28:
		status := map[int]int{22: 0, 23: 1, 24: 2, 25: 0, 27: 1, 28: int(e.C)}[e.Kind]
		i := slices.IndexFunc(m.look.Futures, func(f api.Future) bool { return int64(f.Event) == e.A })
		if i >= 0 && !m.look.Futures[i].Done {
			f := &m.look.Futures[i]
			f.Done, f.Value, f.Status = true, e.B, status
		}
	}
}

// command makes a command; where there is no room the task is left.
func (m *model) command(kind int, l ...int64) int {
	if !slices.Contains([]int{15, 16, 17, 18}, kind) && m.seen+1 == 256 {
		m.fail(-4)
	}
	m.seen++
	e := api.Event{Id: m.seen, Time: m.look.Now, Kind: kind}
	for i, n := range l {
		*[]*int64{&e.A, &e.B, &e.C}[i] = n
	}
	m.made = append(m.made, e)
	m.told.what["event "+kindNames[kind]]++
	if slices.Contains([]int{15, 16, 17, 18}, kind) {
		m.look.Over = true
		panic(left{})
	}
	return e.Id
}

// fail fails with a code.
func (m *model) fail(why int64) {
	if why < 0 && why > -5 {
		m.told.what["fails "+[]string{"", "fuel", "fault", "many", "full"}[-why]]++
	}
	m.command(16, why)
}

// cancelled: is a scope?
func (m *model) cancelled(s int) bool {
	return s >= 0 && (m.look.Scopes[s].Cancelled || m.cancelled(m.look.Scopes[s].Parent))
}

// cancel cancels a scope.
func (m *model) cancel(s int) {
	if m.look.Scopes[s].Cancelled {
		m.told.what["cancelled once more"]++
		return
	}
	var was []bool
	for s := range m.look.Scopes {
		was = append(was, m.cancelled(s))
	}
	m.look.Scopes[s].Cancelled = true
	for i, f := range m.look.Futures {
		if f.Done || was[f.Scope] || !m.cancelled(f.Scope) {
			continue
		}
		switch f.Kind {
		case 3, 4:
			m.command(f.Kind+3, int64(f.Event))
			m.look.Futures[i].Done, m.look.Futures[i].Value, m.look.Futures[i].Status = true, 0, 3
		case 5:
			m.command(8, int64(f.Event))
		}
	}
}

// task does a task; value tells what the k-th draw, whose event has an Id, comes to.
func (m *model) task(now int64, value func(k, id int) int64) (made []api.Event) {
	defer func() {
		if x := recover(); x != nil && x != (left{}) {
			panic(x)
		}
		made = m.made
	}()
	m.fuel, m.made, m.value, m.draws, m.look.Now = 1000, nil, value, 0, now
	m.command(2, int64(m.seen))
	if m.asked {
		m.asked = false
		m.cancel(0)
	}
	for len(m.updates) > 0 {
		u := m.updates[0]
		m.updates = m.updates[1:]
		m.update(u)
	}
	for m.pass() {
		m.told.what["passes"]++
	}
	return
}

// update looks at an update.
func (m *model) update(u api.Event) {
	id := int64(u.Id)
	fn := code.Find(m.p, 3, int(u.A))
	if fn < 0 {
		m.command(13, id, 50)
		return
	}
	if check := code.Find(m.p, 4, int(u.A)); check >= 0 {
		end, v := m.purely(check, u.B)
		m.told.what["check "+end]++
		switch end {
		case "fuel":
			m.fail(-1)
		case "fault":
			m.command(13, id, -2)
			return
		case "failed":
			m.command(13, id, v)
			return
		case "answered":
			if v != 0 {
				m.command(13, id, v)
				return
			}
		}
	}
	if len(m.threads) == 16 {
		m.fail(-3)
	}
	m.command(12, id)
	m.threads = append(m.threads, &api.Thread{Func: fn, Arg: u.B, Future: -1, Update: u.Id, Waits: -1, Signal: -1})
}

// purely does a function purely: how it ends, and with what.
func (m *model) purely(fn int, arg int64) (end string, v int64) {
	defer func() {
		if x := recover(); x != nil {
			end = map[int64]string{-1: "fuel", -2: "fault"}[x.(broke).why]
		}
	}()
	t := &api.Thread{Func: fn, Arg: arg}
	for {
		switch end, v := m.next(t); end {
		case "":
		default:
			return end, v
		}
	}
}

// pass is one pass: did a thread go on?
func (m *model) pass() bool {
	wentOn := false
	// The list grows while it is gone through; what has ended is taken out of a copy.
	for i := 0; i < len(m.threads); i++ {
		t := m.threads[i]
		if t.Waits >= 0 && !m.look.Futures[t.Waits].Done || t.Signal >= 0 && len(m.look.Signals[t.Signal]) == 0 {
			continue
		}
		t.Waits, t.Signal = -1, -1
		wentOn = true
		if m.goOn(t) {
			m.threads = slices.Delete(slices.Clone(m.threads), i, i+1)
			i--
		}
	}
	return wentOn
}

// goOn lets a thread go on: has it ended?
func (m *model) goOn(t *api.Thread) bool {
	defer func() {
		if x := recover(); x != nil {
			if b, ok := x.(broke); ok {
				m.fail(b.why)
			}
			panic(x)
		}
	}()
	for {
		end, v := m.next(t)
		switch end {
		case "":
			continue
		case "waits", "yields":
			m.told.what[end]++
			return false
		}
		status := map[string]int{"answered": 0, "failed": 1}[end]
		if t.Func == 0 {
			switch {
			case status == 0:
				m.command(15, v)
			case m.cancelled(0):
				m.command(17, v)
			default:
				m.told.what["fails itself"]++
				m.command(16, v)
			}
		}
		if t.Update != 0 {
			m.command(14, int64(t.Update), v, int64(status))
			return true
		}
		f := &m.look.Futures[t.Future]
		f.Done, f.Value, f.Status = true, v, status
		m.told.what["thread "+end]++
		return true
	}
}

// numbers are how many an instruction takes and leaves as the machine stands.
func (m *model) numbers(t *api.Thread, op api.Op) (int, int) {
	takesOf := []int{0, 1, 1, 2, 2, 2, 2, 2, 2, 2, 2, 2, 1, 0, 1, 0, 1, 0, 0, 0, 1, 1, 1, 1, 1, 0, 0, 1, 0, 0, 1, 1, 0, 1, 2, 1, 1, 1}
	leavesOf := []int{1, 0, 2, 2, 3, 1, 1, 1, 1, 1, 1, 1, 1, 0, 0, 1, 0, 1, 1, 1, 1, 1, 1, 2, 1, 1, 1, 1, 0, 1, 0, 0, 1, 0, 0, 0, 0, 0}
	a, b := takesOf[op.Code], leavesOf[op.Code]
	if op.Code == 23 && len(t.Stack) > 0 {
		f := t.Stack[len(t.Stack)-1]
		if f >= 0 && f < int64(len(m.look.Futures)) && !m.look.Futures[f].Done {
			b = 1
		}
	}
	if op.Code == 25 && len(m.look.Signals[op.A]) == 0 {
		b = 0
	}
	return a, b
}

// next does a thread's next instruction: "" if it goes on behind it, else how not, and the number that it answers.
func (m *model) next(t *api.Thread) (string, int64) {
	if m.fuel == 0 {
		panic(broke{-1})
	}
	m.fuel--
	op := m.p.Funcs[t.Func].Ops[t.At]
	takes, leaves := m.numbers(t, op)
	n := len(t.Stack) - takes
	if n < 0 || n+leaves > 32 {
		m.told.what["stack "+opNames[op.Code]]++
		panic(broke{-2})
	}
	x := slices.Clone(t.Stack[n:])
	rest := slices.Clone(t.Stack[:n])
	t.At++
	end, v, l := m.done(t, op, x)
	if len(l) != leaves {
		panic("the model's own numbers of " + opNames[op.Code])
	}
	t.Stack = append(rest, l...)
	m.told.ops[op.Code]++
	return end, v
}

// is1 is 1 for true.
func is1(b bool) []int64 {
	if b {
		return []int64{1}
	}
	return []int64{0}
}

// known faults, if there is nothing of a number.
func (m *model) known(n int64, many int, what string) {
	if n < 0 || n >= int64(many) {
		m.told.what["no "+what]++
		panic(broke{-2})
	}
}

// done does an instruction that took x: how it goes on, what it answers, what it leaves.
func (m *model) done(t *api.Thread, op api.Op, x []int64) (string, int64, []int64) {
	one := func(n int64) (string, int64, []int64) { return "", 0, []int64{n} }
	look := &m.look
	switch op.Code {
	case 0:
		return one(op.A)
	case 2:
		return "", 0, []int64{x[0], x[0]}
	case 3:
		return "", 0, []int64{x[1], x[0]}
	case 4:
		return "", 0, []int64{x[0], x[1], x[0]}
	case 5:
		return one(x[0] + x[1])
	case 6:
		return one(x[0] - x[1])
	case 7:
		return one(x[0] * x[1])
	case 8, 9:
		if x[1] == 0 {
			return one(0)
		}
		if x[1] == -1 {
			return one(map[int]int64{8: -x[0], 9: 0}[op.Code])
		}
		return one(map[int]int64{8: x[0] / x[1], 9: x[0] % x[1]}[op.Code])
	case 10:
		return "", 0, is1(x[0] == x[1])
	case 11:
		return "", 0, is1(x[0] < x[1])
	case 12:
		return "", 0, is1(x[0] == 0)
	case 13:
		t.At = int(op.A)
	case 14:
		if x[0] == 0 {
			t.At = int(op.A)
		}
	case 15:
		return one(look.Vars[op.A])
	case 16:
		look.Vars[op.A] = x[0]
	case 17:
		return one(t.Arg)
	case 18:
		return one(look.Now)
	case 19:
		v := m.value(m.draws, m.seen+1)
		m.draws++
		m.command(11, v)
		return one(v)
	case 20, 21, 22:
		return one(m.ask(t, op, x[0]))
	case 23:
		m.known(x[0], len(look.Futures), "future")
		f := look.Futures[x[0]]
		if !f.Done {
			t.At--
			t.Waits = int(x[0])
			return "waits", 0, x
		}
		return "", 0, []int64{f.Value, int64(f.Status)}
	case 24:
		m.known(x[0], len(look.Futures), "future")
		return "", 0, is1(look.Futures[x[0]].Done)
	case 25:
		l := look.Signals[op.A]
		if len(l) == 0 {
			t.At--
			t.Signal = int(op.A)
			return "waits", 0, nil
		}
		look.Signals[op.A] = slices.Clone(l[1:])
		return one(l[0])
	case 26:
		return one(int64(len(look.Signals[op.A])))
	case 27:
		if len(m.threads) == 16 {
			m.fail(-3)
		}
		f := len(look.Futures)
		m.threads = append(m.threads, &api.Thread{Func: int(op.A), Scope: t.Scope, Arg: x[0], Future: f, Waits: -1, Signal: -1})
		look.Futures = append(look.Futures, api.Future{Scope: t.Scope})
		return one(int64(f))
	case 28:
		return "yields", 0, nil
	case 29:
		if len(look.Scopes) == 32 {
			m.fail(-3)
		}
		look.Scopes = append(look.Scopes, api.Scope{Parent: t.Scope})
		return one(int64(len(look.Scopes) - 1))
	case 30:
		m.known(x[0], len(look.Scopes), "scope")
		t.Scope = int(x[0])
	case 31:
		m.known(x[0], len(look.Scopes), "scope")
		m.cancel(int(x[0]))
	case 32:
		return "", 0, is1(m.cancelled(t.Scope))
	case 33:
		m.command(10, op.A, x[0])
		look.Attrs[op.A] = x[0]
	case 34:
		m.known(x[0], len(look.Futures), "child")
		f := look.Futures[x[0]]
		if f.Kind != 5 || f.Event == 0 {
			m.told.what["no child"]++
			panic(broke{-2})
		}
		m.command(9, int64(f.Event), op.A, x[1])
	case 35:
		m.command(18, x[0], 0)
	case 36:
		return "answered", x[0], nil
	case 37:
		return "failed", x[0], nil
	}
	return "", 0, nil
}

// ask makes a future of an activity, a timer, a child: its number.
func (m *model) ask(t *api.Thread, op api.Op, a int64) int64 {
	f := api.Future{Kind: op.Code - 17, Scope: t.Scope}
	switch {
	case m.cancelled(t.Scope):
		m.told.what["made while cancelled"]++
		f.Done, f.Status = true, 3
	case op.Code == 21 && a < 0:
		f.Event = m.command(4, m.look.Now)
	case op.Code == 21 && a > 1<<20:
		f.Event = m.command(4, m.look.Now+1<<20)
	case op.Code == 21:
		f.Event = m.command(4, m.look.Now+a)
	default:
		f.Event = m.command(f.Kind, op.A, a)
	}
	m.look.Futures = append(m.look.Futures, f)
	return int64(len(m.look.Futures) - 1)
}

// query is Query.
func (m *model) query(name int, arg int64) (int64, api.Errno) {
	fn := code.Find(m.p, 2, name)
	if fn < 0 || m.seen == 0 {
		return 0, 50
	}
	was := m.fuel
	m.fuel = 1000
	end, v := m.purely(fn, arg)
	m.fuel = was
	m.told.what["query "+end]++
	if end != "answered" {
		return 0, 50
	}
	return v, 0
}

// stands is how it stands, as Look tells it.
func (m *model) stands() api.Look {
	look := m.look
	if !look.Over {
		for _, t := range m.threads {
			look.Threads = append(look.Threads, *t)
		}
	}
	return look
}

// mixed are the values of a task's draws.
func mixed(draw int64) func(k, id int) int64 {
	return func(k, _ int) int64 { return int64(codec.Mix(uint64(draw + int64(k)))) }
}

// modelReplay is Replay by the chapter's words.
func modelReplay(p api.Program, h []api.Event, told *counts) (*model, api.Errno, int) {
	if err, _, _ := code.Check(p); err != api.OK {
		return nil, api.ErrProgram, 0
	}
	if err, at := grammar.Check(h); err != api.OK {
		return nil, api.ErrHistory, at
	}
	m := newModel(p, told)
	at := 0
	for at < len(h) {
		if h[at].Kind != 2 {
			m.apply(h[at])
			at++
			continue
		}
		made := m.task(h[at].Time, func(_, id int) int64 {
			if id > len(h) {
				return 0
			}
			return h[id-1].A
		})
		for _, e := range made {
			switch {
			case at == len(h):
				told.what["drift: more, at the end"]++
				return nil, api.ErrDrift, at
			case h[at].Kind != e.Kind:
				told.what["drift: another Kind"]++
				return nil, api.ErrDrift, at
			case e.Kind != 11 && e.A != h[at].A, e.Kind != 18 && e.B != h[at].B, e.C != h[at].C:
				told.what["drift: other numbers"]++
				return nil, api.ErrDrift, at
			}
			at++
		}
		if at < len(h) && event.Command(h[at].Kind) && (h[at].Kind != 16 || h[at].A != -4) {
			told.what["drift: none"]++
			return nil, api.ErrDrift, at
		}
	}
	return m, api.OK, 0
}
