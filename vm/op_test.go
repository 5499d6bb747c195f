package vm_test

import (
	"math"
	"math/big"
	"strconv"
	"strings"
	"testing"

	"tapestry/api"
	"tapestry/codec"
)

// edges are numbers at which sums and products go round, and about.
func edges() []int64 {
	return []int64{0, 1, -1, 2, -2, 3, -3, 7, -7, 10, 1 << 31, 1 << 32, -1 << 32, 3037000500, math.MaxInt64, math.MaxInt64 - 1, math.MinInt64, math.MinInt64 + 1}
}

// round is a whole number of any size as an int64, gone round.
func round(n *big.Int) int64 {
	word := new(big.Int).And(n, new(big.Int).SetUint64(math.MaxUint64))
	return int64(word.Uint64())
}

// number is one as a text.
func number(n int64) string { return strconv.FormatInt(n, 10) }

// 'The instructions': what is worked out of two numbers, and of one.
func TestSums(t *testing.T) {
	yes := map[bool]int64{true: 1}
	for _, a := range edges() {
		for _, b := range edges() {
			x, y := big.NewInt(a), big.NewInt(b)
			want := map[string]int64{
				"add": round(new(big.Int).Add(x, y)), "sub": round(new(big.Int).Sub(x, y)), "mul": round(new(big.Int).Mul(x, y)),
				"eq": yes[a == b], "lt": yes[a < b], "div": 0, "mod": 0,
			}
			if b != 0 {
				want["div"], want["mod"] = round(new(big.Int).Quo(x, y)), round(new(big.Int).Rem(x, y))
			}
			for name, n := range want {
				checkMade(t, with("push "+number(a)+" push "+number(b)+" "+name+" ret"), "completed "+number(n))
			}
		}
		checkMade(t, with("push "+number(a)+" not ret"), "completed "+number(yes[a == 0]))
	}
}

// 'The instructions': those that go by the stack, variables and places alone.
func TestPlainInstructions(t *testing.T) {
	for _, x := range [][2]string{
		{"arg ret", "completed 7"},
		{"now ret", "completed 5"},
		{"push -9223372036854775808 ret", "completed -9223372036854775808"},
		{"push 1 push 2 pop ret", "completed 1"},
		{"push 3 dup sub ret", "completed 0"},
		{"push 3 dup add ret", "completed 6"},
		{"push 1 push 2 push 3 swap attr 0 attr 1 attr 2 arg ret", "attr 0 2, attr 1 3, attr 2 1, completed 7"},
		{"push 1 push 2 over attr 0 attr 1 attr 2 arg ret", "attr 0 1, attr 1 2, attr 2 1, completed 7"},
		{"load 15 ret", "completed 0"},
		{"push 4 store 15 push 5 store 0 load 15 ret", "completed 4"},
		{"push 4 store 15 push 5 store 15 load 15 ret", "completed 5"},
		{"push 1 jump 3 pop ret", "completed 1"},
		{"jump 2 fail push 1 ret", "completed 1"},
		{"push 0 jumpz 4 push 1 ret push 2 ret", "completed 2"},
		{"push 1 jumpz 4 push 1 ret push 2 ret", "completed 1"},
		{"push -1 jumpz 4 push 1 ret push 2 ret", "completed 1"},
		{"push 9 push 0 jumpz 4 push 1 ret", "completed 9"},
		{"push 5 signals 3 ret", "completed 0"},
		{"arg fail", "failed 7"},
		{"push -4 fail", "failed -4"},
		{"arg again", "again 7 0"},
		{"push 3 attr 3 arg attr 3 push -1 attr 0 arg ret", "attr 3 3, attr 3 7, attr 0 -1, completed 7"},
		{"cancelled ret", "completed 0"},
		{"yield yield arg ret", "completed 7"},
	} {
		checkMade(t, with(x[0]), x[1])
	}
	m := checkMade(t, with("push 3 store 1 push 4 attr 1 push 5 store 15 push 6 attr 3 wait 0 ret"), "attr 1 4, attr 3 6")
	look := m.Look()
	if look.Vars != [16]int64{1: 3, 15: 5} || look.Attrs != [4]int64{1: 4, 3: 6} || look.Now != 5 {
		t.Errorf("%v", look)
	}
}

// takesAndLeaves is how many numbers each instruction takes and leaves, as the chapter's table has it, behind a child that isn't done, and a thread's future that is.
var takesAndLeaves = map[string][2]int{
	"push 1": {0, 1}, "pop": {1, 0}, "dup": {1, 2}, "swap": {2, 2}, "over": {2, 3}, "add": {2, 1}, "sub": {2, 1}, "mul": {2, 1}, "div": {2, 1}, "mod": {2, 1}, "eq": {2, 1}, "lt": {2, 1}, "not": {1, 1},
	"jumpz 0": {1, 0}, "load 1": {0, 1}, "store 1": {1, 0}, "arg": {0, 1}, "now": {0, 1}, "draw": {0, 1}, "act 0": {1, 1}, "timer": {1, 1}, "child 0": {1, 1}, "await": {1, 1}, "ready": {1, 1}, "signals 0": {0, 1},
	"wait 5": {0, 0}, "wait 6": {0, 1}, "go 1": {1, 1}, "yield": {0, 0}, "scope": {0, 1}, "enter": {1, 0}, "cancel": {1, 0}, "cancelled": {0, 1}, "attr 0": {1, 0}, "tell 0": {2, 0}, "again": {1, 0}, "ret": {1, 0}, "fail": {1, 0},
}

// 'A fault': each instruction with each number of numbers on the stack.
func TestStackFaults(t *testing.T) {
	for name, n := range takesAndLeaves {
		for many := range 33 {
			// Noughts stand for the future 0, a child, and for the scope 0.
			main := "push 1 child 0 pop " + times(many, "push 0") + name
			own := len(text(main))
			main += " jump " + strconv.Itoa(own)
			if name == "jumpz 0" {
				main = strings.Replace(main, "jumpz 0", "jumpz "+strconv.Itoa(own), 1)
			}
			m := begun(t, with(main, sub("wait 1 ret")), 7)
			comes(t, m, ev(api.EvSignal, 6, 1))
			l, err := m.Task(5, 0)
			fault := many < n[0] || many-n[0]+n[1] > 32
			last := l[len(l)-1]
			if err != api.OK || fault != (last.Kind == 16 && last.A == -2) {
				t.Errorf("%s, with %d on the stack: %s %d", name, many, says(l), err)
			}
			if fault && says(l) != "task 2, child 0 1, failed -2" {
				t.Errorf("%s, with %d on the stack: a fault that does more: %s", name, many, says(l))
			}
		}
	}
}

// 'A fault': one does nothing else.
func TestFaultsDoNothingElse(t *testing.T) {
	// A value that there is no room for isn't taken, and a draw that there is none for isn't drawn.
	m := begun(t, with(times(32, "push 1")+"wait 6 ret"), 0)
	comes(t, m, ev(api.EvSignal, 6, 9))
	checkTask(t, m, 5, 0, "task 2, failed -2")
	if l := m.Look().Signals[6]; len(l) != 1 {
		t.Errorf("taken: %v", l)
	}
	m = checkMade(t, with(times(32, "push 1")+"scope ret"), "failed -2")
	if l := m.Look().Scopes; len(l) != 1 {
		t.Errorf("made: %v", l)
	}
	checkMade(t, with(times(32, "push 1")+"draw ret"), "failed -2")
	// One may wait with a full stack; there must be room just when something is left.
	m = begun(t, with(times(32, "push 1")+"wait 6 ret"), 0)
	checkTask(t, m, 5, 0, "task 1")
	comes(t, m, ev(api.EvSignal, 6, 9))
	checkTask(t, m, 5, 0, "task 3, failed -2")
	m = begun(t, with(times(31, "push 1")+"push 4 timer await ret"), 0)
	checkTask(t, m, 5, 0, "task 1, timer 9")
	if l := m.Look().Threads; len(l) != 1 || len(l[0].Stack) != 32 || l[0].Stack[31] != 0 || l[0].Waits != 0 || l[0].At != 33 {
		t.Errorf("%v", l)
	}
	comes(t, m, ev(api.EvFired, 3))
	checkTask(t, m, 9, 0, "task 4, failed -2")
	m = begun(t, with(times(30, "push 1")+"push 4 timer await ret"), 0)
	checkTask(t, m, 5, 0, "task 1, timer 9")
	comes(t, m, ev(api.EvFired, 3))
	checkTask(t, m, 9, 0, "task 4, completed 0")
	m = begun(t, with(times(31, "push 1")+"wait 6 ret"), 0)
	comes(t, m, ev(api.EvSignal, 6, 9))
	checkTask(t, m, 5, 0, "task 2, completed 9")
}

// 'A fault': numbers of futures, scopes and children that there aren't.
func TestNumbersThatStandForNothing(t *testing.T) {
	none := []int64{-1, 2, 3, 31, 1 << 32, 1<<32 + 1, math.MaxInt64, math.MinInt64}
	for _, n := range none {
		for _, op := range []string{"await", "ready"} {
			checkMade(t, with("push 1 child 0 pop push 2 act 0 pop push "+number(n)+" "+op+" ret"), "child 0 1, activity 0 2, failed -2")
		}
		for _, op := range []string{"enter", "cancel"} {
			checkMade(t, with("scope pop push "+number(n)+" "+op+" arg ret"), "failed -2")
		}
		checkMade(t, with("push 1 child 0 pop push 2 child 1 pop push "+number(n)+" push 3 tell 0 arg ret"), "child 0 1, child 1 2, failed -2")
	}
	for _, op := range []string{"await", "ready"} {
		checkMade(t, with("push 0 "+op+" ret"), "failed -2")
	}
	for _, n := range []string{"0", "1"} {
		for _, op := range []string{"enter", "cancel"} {
			checkMade(t, with("scope pop push "+n+" "+op+" arg ret"), "completed 7")
		}
	}
	// A future that is no child, and a child that there never was.
	checkMade(t, with("push 1 act 0 pop push 0 push 3 tell 0 arg ret"), "activity 0 1, failed -2")
	checkMade(t, with("push 1 timer pop push 0 push 3 tell 0 arg ret"), "timer 6, failed -2")
	checkMade(t, with("push 1 go 1 pop push 0 push 3 tell 0 arg ret", sub("wait 0 ret")), "failed -2")
	checkMade(t, with("scope dup enter cancel push 1 child 0 pop push 0 push 3 tell 0 arg ret"), "failed -2")
}

// OpStore, OpEnter and the others of the scopes take the top one; of 'a b' b is on top.
func TestTell(t *testing.T) {
	m := checkMade(t, with("push 1 act 0 pop push 2 child 6 push 9 tell 7 push 1 push -8 tell 0 wait 0 pop push 1 push 5 tell 3 arg ret"), "activity 0 1, child 6 2, tell 4 7 9, tell 4 0 -8")
	// Also of one that is through.
	comes(t, m, ev(api.EvBorn, 4, 2), ev(api.EvChildEnd, 4, 6, 0), ev(api.EvSignal, 0, 1))
	checkTask(t, m, 6, 0, "task 9, tell 4 3 5, completed 7")
}

// OpTimer: when it fires.
func TestTimer(t *testing.T) {
	for _, x := range [][2]int64{{0, 0}, {1, 1}, {-1, 0}, {math.MinInt64, 0}, {1<<20 - 1, 1<<20 - 1}, {1 << 20, 1 << 20}, {1<<20 + 1, 1 << 20}, {math.MaxInt64, 1 << 20}} {
		for _, now := range []int64{0, 5, 1 << 40} {
			m := begun(t, with("push "+number(x[0])+" timer pop wait 0 ret"), 0)
			checkTask(t, m, now, 0, "task 1, timer "+number(now+x[1]))
			checkLook(t, m, api.Look{Now: now, Futures: []api.Future{{Kind: 4, Event: 3}}, Threads: []api.Thread{{At: 3, Future: -1, Waits: -1, Signal: 0}}})
		}
	}
	m := begun(t, with("wait 0 timer pop jump 0"), 0)
	comes(t, m, ev(api.EvSignal, 0, 4))
	checkTask(t, m, 5, 0, "task 2, timer 9")
	comes(t, m, ev(api.EvSignal, 0, 4))
	checkTask(t, m, 3, 0, "task 5, timer 7")
}

// OpDraw: the k-th one of the task is that of draw and k, in whichever thread.
func TestDraw(t *testing.T) {
	mix := func(n uint64) string { return number(int64(codec.Mix(n))) }
	// The numbers of chapter 1's examples.
	first, second := uint64(0xe220a8397b1dcdaf), uint64(0x910a2dec89025cc1)
	m := begun(t, with("draw pop push 0 go 1 pop draw pop yield draw pop wait 0 pop draw ret", sub("draw pop draw ret")), 0)
	checkTask(t, m, 5, 0, "task 1, draw "+number(int64(first))+", draw "+number(int64(second))+", draw "+mix(2)+", draw "+mix(3)+", draw "+mix(4))
	comes(t, m, ev(api.EvSignal, 0, 1))
	checkTask(t, m, 6, 0, "task 8, draw "+number(int64(first))+", completed "+number(int64(first)))
	m = begun(t, with("draw draw draw pop pop ret"), 0)
	checkTask(t, m, 5, -1, "task 1, draw "+mix(math.MaxUint64)+", draw "+mix(0)+", draw "+mix(1)+", completed "+mix(math.MaxUint64))
	m = begun(t, with("draw draw add ret"), 0)
	one, two := codec.Mix(1<<63), codec.Mix(1<<63+1)
	checkTask(t, m, 5, math.MinInt64, "task 1, draw "+number(int64(one))+", draw "+number(int64(two))+", completed "+number(int64(one+two)))
	m = begun(t, with("draw draw pop ret"), 0)
	checkTask(t, m, 5, math.MaxInt64, "task 1, draw "+mix(1<<63-1)+", draw "+mix(1<<63)+", completed "+mix(1<<63-1))
}

// OpAwait, OpReady: of each kind of future, done and not.
func TestAwait(t *testing.T) {
	m := checkMade(t, with("push 3 act 1 store 0 load 0 ready attr 0 load 0 await attr 1 attr 2 load 0 ready attr 3 load 0 await add ret"), "activity 1 3, attr 0 0")
	checkLook(t, m, api.Look{Now: 5, Futures: []api.Future{{Kind: 3, Event: 3}}, Threads: []api.Thread{{At: 7, Stack: []int64{0}, Arg: 7, Future: -1, Waits: 0, Signal: -1}}})
	checkTask(t, m, 5, 0, "task 4")
	comes(t, m, ev(api.EvBroken, 3, 9, 1))
	checkTask(t, m, 5, 0, "task 6, attr 1 1, attr 2 9, attr 3 1, completed 10")
	// A thread that has ended well, and one that hasn't.
	checkMade(t, with("push 8 go 1 dup ready attr 0 dup await attr 1 attr 2 ready attr 3 arg ret", sub("arg push 1 add ret")), "attr 0 0, attr 1 0, attr 2 9, attr 3 1, completed 7")
	checkMade(t, with("push 8 go 1 await attr 1 attr 2 arg ret", sub("arg push 1 add fail")), "attr 1 1, attr 2 9, completed 7")
}

// OpGo: what a thread has, and what its future.
func TestGo(t *testing.T) {
	m := checkMade(t, with("push 1 timer pop scope enter push 8 go 2 pop push 9 push 9 go 1 wait 0 ret", sub("wait 1 ret"), sub("push 6 wait 2 ret")), "timer 6")
	checkLook(t, m, api.Look{Now: 5,
		Futures: []api.Future{{Kind: 4, Event: 3}, {Scope: 1}, {Scope: 1}},
		Scopes:  []api.Scope{{Parent: -1}, {}},
		Threads: []api.Thread{
			{At: 11, Scope: 1, Stack: []int64{9, 2}, Arg: 7, Future: -1, Waits: -1, Signal: 0},
			{Func: 2, At: 1, Scope: 1, Stack: []int64{6}, Arg: 8, Future: 1, Waits: -1, Signal: 2},
			{Func: 1, Scope: 1, Arg: 9, Future: 2, Waits: -1, Signal: 1},
		}})
	comes(t, m, ev(api.EvSignal, 2, 5))
	checkTask(t, m, 6, 0, "task 4")
	look := m.Look()
	if len(look.Threads) != 2 || look.Threads[1].Func != 1 || look.Futures[1] != (api.Future{Scope: 1, Done: true, Value: 5}) {
		t.Errorf("%v", look)
	}
}

// OpGo, OpScope: how many there may be.
func TestMany(t *testing.T) {
	// Sixteen threads, with the first one.
	checkMade(t, with(times(15, "push 0 go 1 pop")+"arg ret", sub("wait 0 ret")), "completed 7")
	m := checkMade(t, with(times(16, "push 0 go 1 pop")+"arg ret", sub("wait 0 ret")), "failed -3")
	if n := len(m.Look().Futures); n != 15 {
		t.Errorf("%d futures", n)
	}
	// One that has ended is none more.
	checkMade(t, with(times(15, "push 0 go 1 pop")+"yield"+" "+times(15, "push 0 go 1 pop")+"arg ret", sub("arg ret")), "completed 7")
	checkMade(t, with(times(15, "push 0 go 1 pop")+"yield push 0 go 1 pop push 0 go 1 pop arg ret", sub("signals 0 jumpz 3 arg wait 1 ret")), "failed -3")
	m = begun(t, with(times(15, "push 0 go 1 pop")+"yield push 0 go 1 pop push 0 go 1 pop arg ret", sub("wait 2 ret")), 7)
	comes(t, m, ev(api.EvSignal, 2, 1))
	checkTask(t, m, 5, 0, "task 2, failed -3")
	m = begun(t, with(times(15, "push 0 go 1 pop")+"yield push 0 go 1 pop push 0 go 1 pop arg ret", sub("wait 2 ret")), 7)
	comes(t, m, ev(api.EvSignal, 2, 1), ev(api.EvSignal, 2, 1))
	checkTask(t, m, 5, 0, "task 3, completed 7")
	// Thirty-two scopes, with the first one.
	checkMade(t, with(times(30, "scope pop")+"scope ret"), "completed 31")
	m = checkMade(t, with(times(31, "scope pop")+"scope ret"), "failed -3")
	if n := len(m.Look().Scopes); n != 32 {
		t.Errorf("%d scopes", n)
	}
}

// 'A thread': which can go on, and when.
func TestPasses(t *testing.T) {
	// In order, those that are made in that pass, too; who yields goes on in the next one.
	checkMade(t, with("push 1 go 1 pop push 2 go 1 pop push 0 attr 0 yield push 0 attr 0 yield push 0 attr 0 arg ret", sub("arg attr 0 push 3 go 2 pop yield arg attr 0 wait 0 ret"), sub("arg attr 0 wait 0 ret")),
		"attr 0 0, attr 0 1, attr 0 2, attr 0 3, attr 0 3, attr 0 0, attr 0 1, attr 0 2, attr 0 0, completed 7")
	// One that has ended isn't gone on with, and none is left out for it.
	checkMade(t, with("push 1 go 1 pop push 2 go 1 pop push 3 go 1 pop yield arg ret", sub("arg attr 0 arg ret")), "attr 0 1, attr 0 2, attr 0 3, completed 7")
	// What an earlier one brings about is seen in the same pass, what a later one does in the next.
	checkMade(t, with("push 1 go 1 store 0 push 2 go 2 pop wait 0 ret", sub("yield push 1 attr 0 arg ret"), sub("load 0 await pop attr 1 yield push 2 attr 2 wait 0 ret")), "attr 0 1, attr 1 1, attr 2 2")
	checkMade(t, with("push 1 go 1 store 0 push 2 go 2 store 1 wait 0 ret", sub("load 1 await pop attr 1 push 3 attr 2 wait 0 ret"), sub("push 1 attr 0 arg ret")), "attr 0 1, attr 1 2, attr 2 3")
	checkMade(t, with("push 1 go 1 pop push 2 go 2 store 1 yield wait 0 ret", sub("yield load 1 await pop attr 1 wait 0 ret"), sub("yield push 1 attr 0 arg ret")), "attr 0 1, attr 1 2")
	// Of two that wait for a signal the first one takes its value, and the other one goes on waiting.
	m := begun(t, with("push 1 go 1 pop push 2 go 1 pop wait 0 ret", sub("wait 5 arg attr 0 attr 1 wait 0 ret")), 7)
	checkTask(t, m, 5, 0, "task 1")
	comes(t, m, ev(api.EvSignal, 5, 50))
	checkTask(t, m, 6, 0, "task 3, attr 0 1, attr 1 50")
	look := m.Look()
	if l := look.Threads; len(l) != 3 || l[0].Signal != 0 || l[1].Signal != 0 || l[2].Signal != 5 || l[1].At != 4 || l[2].At != 0 {
		t.Errorf("%v", l)
	}
	comes(t, m, ev(api.EvSignal, 5, 51))
	checkTask(t, m, 7, 0, "task 7, attr 0 2, attr 1 51")
	// What ended first stands in the order of the threads no more.
	m = begun(t, with("push 1 go 1 pop push 2 go 2 pop push 3 go 1 pop wait 0 ret", sub("wait 5 pop arg attr 0 wait 6 ret"), sub("arg ret")), 7)
	checkTask(t, m, 5, 0, "task 1")
	if l := m.Look().Threads; len(l) != 3 || l[0].Arg != 7 || l[1].Arg != 1 || l[2].Arg != 3 {
		t.Errorf("%v", l)
	}
	comes(t, m, ev(api.EvSignal, 5, 1), ev(api.EvSignal, 5, 1))
	checkTask(t, m, 5, 0, "task 4, attr 0 1, attr 0 3")
}

// A thread's end closes it, if it is the first one; other threads go on no more.
func TestEnds(t *testing.T) {
	m := checkMade(t, with("push 1 go 1 pop push 2 go 1 pop yield arg ret", sub("arg attr 0 yield arg attr 1 wait 0 ret")), "attr 0 1, attr 0 2, completed 7")
	checkLook(t, m, api.Look{Now: 5, Over: true, Attrs: [4]int64{2}, Futures: []api.Future{{}, {}}})
	checkMade(t, with("push 1 go 1 pop yield push 3 again", sub("push 5 fail")), "again 3 0")
	checkMade(t, with("push 1 go 1 pop yield wait 0 ret", sub("pop ret")), "failed -2")
	checkMade(t, with("push 1 go 1 pop wait 0 ret", sub("push 5 fail")), "")
}
