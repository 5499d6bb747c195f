package vm_test

import (
	"math"
	"math/rand"
	"reflect"
	"slices"
	"strings"
	"testing"

	"tapestry/api"
	"tapestry/event"
	"tapestry/grammar"
	"tapestry/vm"
)

// pick is one of some.
func pick[T any](r *rand.Rand, l ...T) T { return l[r.Intn(len(l))] }

// anyNumber is often one at which something is another thing.
func anyNumber(r *rand.Rand) int64 {
	return pick[int64](r, 0, 0, 1, 1, 2, 3, 5, 7, -1, -4, 31, 1<<20, 1<<20+1, math.MaxInt64, math.MinInt64)
}

// phrase are instructions that do something by themselves: the variables 0 to 3 have futures, 4 to 7 scopes, the others any numbers.
func phrase(r *rand.Rand, subs []int64) []api.Op {
	is := func(codes ...int) []api.Op {
		var l []api.Op
		for _, c := range codes {
			l = append(l, api.Op{Code: c})
		}
		return l
	}
	with := func(code int, a int64) []api.Op { return []api.Op{{Code: code, A: a}} }
	push := func() []api.Op {
		return pick(r, with(api.OpPush, anyNumber(r)), with(api.OpPush, r.Int63n(4)), with(api.OpLoad, 8+r.Int63n(8)), is(api.OpArg), is(api.OpNow))
	}
	future, scope, value := r.Int63n(4), 4+r.Int63n(4), 8+r.Int63n(8)
	load := func(n int64) []api.Op { return with(api.OpLoad, n) }
	store := func(n int64) []api.Op { return with(api.OpStore, n) }
	ask := pick(r, with(api.OpAct, r.Int63n(2)), with(api.OpAct, 0), is(api.OpTimer), with(api.OpChild, r.Int63n(8)))
	if len(subs) > 0 && r.Intn(3) == 0 {
		ask = with(api.OpGo, pick(r, subs...))
	}
	take := slices.Concat(is(api.OpAwait), store(value), store(8+r.Int63n(8)))
	switch r.Intn(20) {
	case 0:
		return slices.Concat(push(), store(value))
	case 1, 2:
		two := pick(r, api.OpAdd, api.OpSub, api.OpMul, api.OpDiv, api.OpMod, api.OpEq, api.OpLt, api.OpSwap, api.OpOver, api.OpPop)
		return slices.Concat(push(), push(), push(), is(two), store(value), pick(r, is(api.OpPop), is(api.OpNot, api.OpDup, api.OpDup)))
	case 3:
		return slices.Concat(is(api.OpDraw), pick(r, store(value), with(api.OpAttr, r.Int63n(4))))
	case 4:
		return slices.Concat(push(), with(api.OpAttr, r.Int63n(4)))
	case 5, 6, 7:
		return slices.Concat(push(), ask, store(future))
	case 8, 9:
		return slices.Concat(push(), ask, take)
	case 10, 11:
		return slices.Concat(load(future), take)
	case 12:
		return slices.Concat(with(api.OpWait, r.Int63n(3)), store(value))
	case 13:
		return slices.Concat(with(api.OpSignals, r.Int63n(3)), store(value))
	case 14:
		return is(api.OpYield)
	case 15:
		return slices.Concat(is(api.OpScope), store(scope))
	case 16:
		return slices.Concat(load(scope), is(api.OpEnter))
	case 17:
		return slices.Concat(load(scope), is(pick(r, api.OpCancel, api.OpCancel, api.OpEnter)), is(api.OpCancelled), store(value))
	case 18:
		return slices.Concat(load(0), push(), with(api.OpTell, r.Int63n(8)))
	}
	return slices.Concat(load(future), is(api.OpReady), store(value))
}

// anyOps are the instructions of a function that isn't pure.
func anyOps(r *rand.Rand, subs []int64, main bool) []api.Op {
	ops := text("push 1 child 3 store 0")
	if !main {
		ops = nil
	}
	for range 1 + r.Intn(10) {
		more := phrase(r, subs)
		if len(ops)+len(more)+4 > api.MaxOps {
			break
		}
		if r.Intn(5) == 0 {
			ops = append(ops, api.Op{Code: api.OpLoad, A: 8 + r.Int63n(8)}, api.Op{Code: api.OpJumpz, A: int64(len(ops) + 2 + len(more))})
		}
		ops = append(ops, more...)
	}
	last := pick(r, api.OpRet, api.OpRet, api.OpFail, api.OpJump)
	if main {
		last = pick(r, api.OpJump, api.OpJump, api.OpJump, api.OpRet, api.OpFail, api.OpAgain)
	}
	if last == api.OpJump {
		back := r.Intn(len(ops))
		if r.Intn(3) > 0 {
			ops = append(ops, text("wait 0 store 8")...)
		}
		return append(ops, api.Op{Code: api.OpJump, A: int64(back)})
	}
	return append(ops, api.Op{Code: api.OpLoad, A: 8 + r.Int63n(8)}, api.Op{Code: last})
}

// pureOps are the instructions of a function that is pure.
func pureOps(r *rand.Rand) []api.Op {
	return text(pick(r, "load 8 arg add ret", "arg push 2 lt ret", "push 0 ret", "push 0 fail", "load 9 fail", "jump 0", "pop push 1 ret", "signals 0 signals 1 sub ret",
		"now arg over swap mod ret", "arg jumpz 4 load 10 fail load 11 ret", "push 300 push 1 sub dup not jumpz 1 arg ret", "push 1 jump 0"))
}

// anyProgram is one that may be, in which much happens.
func anyProgram(r *rand.Rand) api.Program {
	p := api.Program{Opts: []api.Opts{{Num: 1, Den: 1}, {Num: 1, Den: 1, Queue: 3}}}
	var subs []int64
	for f := range r.Intn(4) {
		subs = append(subs, int64(f+1))
	}
	p.Funcs = []api.Func{{Ops: anyOps(r, subs, true)}}
	for range subs {
		p.Funcs = append(p.Funcs, api.Func{Kind: api.FnSub, Ops: anyOps(r, subs, false)})
	}
	for name := range 1 + r.Intn(3) {
		p.Funcs = append(p.Funcs, api.Func{Kind: api.FnQuery, Name: name, Ops: pureOps(r)})
		p.Funcs = append(p.Funcs, api.Func{Kind: api.FnUpdate, Name: name, Ops: anyOps(r, subs, false)})
		if r.Intn(3) > 0 {
			p.Funcs = append(p.Funcs, api.Func{Kind: api.FnCheck, Name: name, Ops: pureOps(r)})
		}
	}
	// Sometimes anything, anywhere: it may be that there isn't enough on the stack for it.
	if r.Intn(3) == 0 {
		ops := p.Funcs[r.Intn(1+len(subs))].Ops
		op := api.Op{Code: pick(r, 1, 2, 3, 4, 5, 12, 16, 17, 18, 19, 21, 23, 24, 26, 28, 29, 30, 31, 32, 33)}
		ops[r.Intn(len(ops)-1)] = op
	}
	return p
}

// next is an event from outside that may come behind a history.
func next(r *rand.Rand, h []api.Event, now int64) (api.Event, bool) {
	e := api.Event{Id: len(h) + 1, Time: now, Kind: pick(r, 19, 19, 19, 21, 21, 22, 22, 23, 24, 25, 25, 25, 26, 26, 27, 28, 28, 29)}
	if r.Intn(60) == 0 {
		e.Kind = pick(r, 20, 20, 20, 20, 20, 16, 30, 31)
	}
	if r.Intn(5) > 0 && e.Kind > 21 && e.Kind < 30 {
		// One that somebody waits for.
		open, _ := grammar.Open(h)
		if len(open) == 0 {
			return e, false
		}
		x := h[pick(r, open...)]
		switch x.Kind {
		case 3:
			e.Kind = pick(r, 22, 23, 24)
		case 4:
			e.Kind = 25
		case 5:
			e.Kind = pick(r, 26, 27, 28, 28, 28)
		default:
			return e, false
		}
		e.A = int64(x.Id)
	} else {
		e.A = 1 + r.Int63n(int64(len(h)))
	}
	e.B = anyNumber(r)
	switch e.Kind {
	case 16:
		e.A, e.B = -4, 0
	case 19:
		e.A = r.Int63n(3)
	case 20, 25, 30:
		e.A, e.B = r.Int63n(9), 0
		if e.Kind == 25 {
			var open []int64
			for _, x := range event.Of(h, 4) {
				open = append(open, int64(x.Id))
			}
			if len(open) == 0 {
				return e, false
			}
			e.A = pick(r, open...)
			e.Time = max(now, h[e.A-1].A)
			if e.Time > 1<<39 {
				return e, false
			}
		}
	case 21:
		e.A = r.Int63n(4)
	case 22, 23:
		e.C = 1
	case 24:
		e.B, e.C = 1+r.Int63n(4), 1
	case 26:
		e.B = 9
	case 28:
		e.C = r.Int63n(5)
	case 31:
		e.A, e.B = 0, 0
	}
	err, _ := grammar.Check(append(slices.Clone(h), e))
	return e, err == api.OK
}

// bare is a Look in which each list without elements is nil.
func bare(l api.Look) api.Look {
	l.Threads = slices.Clone(l.Threads)
	for i, t := range l.Threads {
		if len(t.Stack) == 0 {
			l.Threads[i].Stack = nil
		}
	}
	l.Signals = slices.Clone(l.Signals)
	for i, s := range l.Signals {
		if len(s) == 0 {
			l.Signals[i] = nil
		}
	}
	if len(l.Threads) == 0 {
		l.Threads = nil
	}
	if len(l.Futures) == 0 {
		l.Futures = nil
	}
	return l
}

// checkStands: a machine stands as the model, and answers queries as it does, which change nothing.
func checkStands(t *testing.T, what string, m *vm.Machine, x *model) {
	t.Helper()
	look := bare(m.Look())
	if want := bare(x.stands()); !reflect.DeepEqual(look, want) {
		t.Fatalf("%s: Look: %v, want %v", what, look, want)
	}
	if n, over := m.Count(); n != x.seen || over != x.look.Over {
		t.Fatalf("%s: Count: %d %v, want %d %v", what, n, over, x.seen, x.look.Over)
	}
	for name := -1; name < 4; name++ {
		for _, arg := range []int64{0, 3, math.MinInt64} {
			want, no := x.query(name, arg)
			if v, err := m.Query(name, arg); v != want || err != no {
				t.Fatalf("%s: Query(%d, %d): %d %d, want %d %d", what, name, arg, v, err, want, no)
			}
		}
	}
	if again := bare(m.Look()); !reflect.DeepEqual(look, again) {
		t.Fatalf("%s: queries have changed it: %v, was %v", what, again, look)
	}
}

// checkReplay: what Replay answers of a history, held against the model; the machine, if there is one.
func checkReplay(t *testing.T, what string, p api.Program, h []api.Event, told *counts) (*vm.Machine, *model) {
	t.Helper()
	was := slices.Clone(h)
	x, no, place := modelReplay(p, h, told)
	m, err, at := vm.Replay(p, h)
	if err != no || at != place || (m == nil) != (no != api.OK) {
		t.Fatalf("%s: Replay: %v %d %d, want %d %d: %v of %v", what, m != nil, err, at, no, place, h, p)
	}
	if !slices.Equal(h, was) {
		t.Fatalf("%s: Replay has changed the history", what)
	}
	if m != nil {
		checkStands(t, what, m, x)
	}
	return m, x
}

// played is what a program has come to: a machine, its model, its history, the time.
type played struct {
	p   api.Program
	m   *vm.Machine
	x   *model
	h   []api.Event
	now int64
}

// begin is a program that was just started.
func begin(t *testing.T, p api.Program, input int64, told *counts) *played {
	t.Helper()
	m, err := vm.New(p)
	if err != api.OK {
		t.Fatalf("New: %d: %v", err, p)
	}
	y := &played{p: p, m: m, x: newModel(p, told)}
	y.come(t, api.Event{Id: 1, Kind: 1, B: input})
	return y
}

// come lets an event from outside come.
func (y *played) come(t *testing.T, e api.Event) {
	t.Helper()
	if err := y.m.Apply(e); err != api.OK {
		t.Fatalf("Apply of %v: %d", e, err)
	}
	y.x.apply(e)
	y.now = e.Time
	y.h = append(y.h, e)
}

// task does one.
func (y *played) task(t *testing.T, draw int64) {
	t.Helper()
	l, err := y.m.Task(y.now, draw)
	want := y.x.task(y.now, mixed(draw))
	if err != api.OK || !slices.Equal(l, want) {
		t.Fatalf("Task(%d, %d): %v %d, want %v, behind %v, of %v", y.now, draw, l, err, want, y.h, y.p)
	}
	for _, e := range l {
		if e.Kind == 18 {
			e.B = 5
		}
		y.h = append(y.h, e)
	}
	if err, at := grammar.Check(y.h); err != api.OK {
		t.Fatalf("no history: %d: %v", at, y.h)
	}
}

// any does something, so many times, or till it is over.
func (y *played) any(t *testing.T, r *rand.Rand, most int) {
	t.Helper()
	for range most {
		if y.x.look.Over {
			return
		}
		if r.Intn(3) == 0 && len(y.h) <= 254 {
			y.now += r.Int63n(3)
			y.task(t, pick[int64](r, 0, 1, -1, r.Int63()))
		} else if e, ok := next(r, y.h, y.now); ok {
			y.come(t, e)
		}
		checkStands(t, "any", y.m, y.x)
	}
}

// P16.2 to P16.7: any programs, to which anything comes, held against the model, and replayed.
func TestAnyPrograms(t *testing.T) {
	r := rand.New(rand.NewSource(16))
	told := newCounts()
	for range 4000 {
		p := anyProgram(r)
		y := begin(t, p, anyNumber(r), told)
		if r.Intn(4) == 0 {
			// Much has come already.
			for range r.Intn(260) {
				if e, ok := next(r, y.h, 0); ok && e.Time == 0 && !y.x.look.Over {
					y.come(t, e)
				}
			}
		}
		y.any(t, r, 1+r.Intn(60))
		m, x := checkReplay(t, "what was played", p, y.h, told)
		if !x.look.Over && len(y.h) <= 254 {
			// It goes on just as the one that was played.
			z := &played{p, m, x, slices.Clone(y.h), y.now}
			z.task(t, 7)
			y.task(t, 7)
			if !slices.Equal(y.h, z.h) {
				t.Fatalf("a replayed one goes on otherwise: %v, %v", y.h, z.h)
			}
			checkStands(t, "gone on", z.m, y.x)
		}
		for range 6 {
			checkReplay(t, "a beginning", p, y.h[:r.Intn(len(y.h)+1)], told)
			checkReplay(t, "another history", p, otherwise(r, y.h), told)
		}
		for range 4 {
			checkReplay(t, "another program", otherProgram(r, p), y.h, told)
		}
	}
	for code, op := range opNames {
		// An OpAgain closes it, and so isn't counted as done.
		if told.ops[code] < 50 && code != api.OpAgain {
			t.Errorf("not often done: %s", op)
		}
	}
	for _, what := range []string{"passes", "waits", "yields", "fails fuel", "fails fault", "fails many", "fails full", "fails itself", "no future", "no scope", "no child", "made while cancelled", "cancelled once more",
		"check answered", "check failed", "check fuel", "check fault", "query answered", "query failed", "query fuel", "query fault", "thread answered", "thread failed", "stack pop", "stack push", "stack store",
		"drift: more, at the end", "drift: another Kind", "drift: other numbers", "drift: none"} {
		if told.what[what] < 20 {
			t.Errorf("not often come to pass: %s: %d", what, told.what[what])
		}
	}
	for kind, name := range kindNames {
		if kind > 0 && told.what["event "+name] < 10 {
			t.Errorf("not often: event %s", name)
		}
	}
}

// otherwise is a history in which something is another thing, often such that it still is one.
func otherwise(r *rand.Rand, h []api.Event) []api.Event {
	l := slices.Clone(h)
	i := r.Intn(len(l))
	for tries := 0; tries < 20 && !event.Command(l[i].Kind); tries++ {
		i = r.Intn(len(l))
	}
	e := &l[i]
	switch r.Intn(9) {
	case 0:
		e.A += pick[int64](r, -1, 1)
	case 1:
		e.B += pick[int64](r, -1, 1)
	case 2:
		e.C ^= 1
	case 3:
		*e = api.Event{Id: e.Id, Time: e.Time, Kind: pick(r, 3, 4, 5, 10, 11, 15, 16, 17), A: pick[int64](r, 0, 1, e.A, -4)}
	case 4:
		l = append(l[:i:i], api.Event{Id: i + 1, Time: e.Time, Kind: pick(r, 10, 11, 15, 16, 17, 16), A: pick[int64](r, 0, -1, -4, -4)})
	case 5:
		// A command more, at the end.
		last := l[len(l)-1]
		l = append(l, api.Event{Id: len(l) + 1, Time: last.Time, Kind: pick(r, 3, 4, 10, 11, 15, 16, 16), A: pick[int64](r, 0, 1, 2, -4, -4)})
	case 6:
		// A task more, at the end.
		last := l[len(l)-1]
		l = append(l, api.Event{Id: len(l) + 1, Time: last.Time, Kind: 2, A: int64(len(l))})
	case 7:
		l = numbered(slices.Delete(l, i, i+1))
	case 8:
		l = numbered(slices.Insert(l, i, l[r.Intn(len(l))]))
	}
	return l
}

// numbered are events whose Ids are set in order, and with them the tasks' A.
func numbered(l []api.Event) []api.Event {
	for i := range l {
		l[i].Id = i + 1
		if l[i].Kind == 2 {
			l[i].A = int64(i)
		}
	}
	return l
}

// otherProgram is a program in which an instruction is another one, so that it may be none.
func otherProgram(r *rand.Rand, p api.Program) api.Program {
	q := api.Program{Opts: p.Opts}
	for _, fn := range p.Funcs {
		fn.Ops = slices.Clone(fn.Ops)
		q.Funcs = append(q.Funcs, fn)
	}
	ops := q.Funcs[r.Intn(len(q.Funcs))].Ops
	op := &ops[r.Intn(len(ops))]
	switch r.Intn(3) {
	case 0:
		op.A += pick[int64](r, -1, 1)
	case 1:
		op.Code = r.Intn(39)
	case 2:
		*op = api.Op{Code: pick(r, api.OpPush, api.OpLoad, api.OpDraw, api.OpYield, api.OpScope), A: 0}
	}
	return q
}

// opNames are the opcodes' names, in order.
var opNames = strings.Fields("push pop dup swap over add sub mul div mod eq lt not jump jumpz load store arg now draw act timer child await ready wait signals go yield scope enter cancel cancelled attr tell again ret fail")

// kindNames are those of the kinds of events, from 0 on, where there is none.
var kindNames = strings.Fields("none started task activity timer child undoact undotimer undochild tell attr draw accept reject answer completed failed canceled again signal cancel update done broken late fired born unborn childend told stopped timedout")
