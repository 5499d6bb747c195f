package code_test

import (
	"math"
	"math/rand"
	"reflect"
	"slices"
	"testing"

	"tapestry/api"
	"tapestry/code"
)

// list are instructions: opcodes and operands, one behind the other.
func list(l ...int64) []api.Op {
	var ops []api.Op
	for i := 0; i+1 < len(l); i += 2 {
		ops = append(ops, api.Op{Code: int(l[i]), A: l[i+1]})
	}
	return ops
}

// ret are the fewest instructions that a function of any kind may have, with something ahead of the last one.
func ret() []api.Op { return list(api.OpArg, 0, api.OpRet, 0) }

// of is a function.
func of(kind, name int, ops ...api.Op) api.Func { return api.Func{Kind: kind, Name: name, Ops: ops} }

// with is a program of the least function 0, and these behind it.
func with(l ...api.Func) api.Program {
	return api.Program{Funcs: append([]api.Func{of(api.FnMain, 0, ret()...)}, l...)}
}

// plain is how an activity is done, with as little said as may be.
func plain() api.Opts { return api.Opts{Num: 1, Den: 1} }

// done is a program whose activities are done so.
func done(l ...api.Opts) api.Program {
	p := with()
	p.Opts = l
	return p
}

// whole is a program of each kind of function, with each opcode.
func whole() api.Program {
	main := list(api.OpPush, -5, api.OpPop, 0, api.OpDup, 0, api.OpSwap, 0, api.OpOver, 0, api.OpAdd, 0, api.OpSub, 0, api.OpMul, 0, api.OpDiv, 0, api.OpMod, 0, api.OpEq, 0, api.OpLt, 0, api.OpNot, 0,
		api.OpJump, 37, api.OpJumpz, 0, api.OpLoad, 15, api.OpStore, 0, api.OpArg, 0, api.OpNow, 0, api.OpDraw, 0, api.OpAct, 1, api.OpTimer, 0, api.OpChild, 7, api.OpAwait, 0, api.OpReady, 0, api.OpWait, 7,
		api.OpSignals, 0, api.OpGo, 1, api.OpYield, 0, api.OpScope, 0, api.OpEnter, 0, api.OpCancel, 0, api.OpCancelled, 0, api.OpAttr, 3, api.OpTell, 5, api.OpAgain, 0, api.OpRet, 0, api.OpFail, 0)
	return api.Program{
		Funcs: []api.Func{
			of(api.FnMain, 0, main...),
			of(api.FnSub, 0, list(api.OpGo, 1, api.OpPush, math.MinInt64, api.OpRet, 0)...),
			of(api.FnCheck, 7, list(api.OpLoad, 3, api.OpJump, 0)...),
			of(api.FnQuery, 7, list(api.OpNow, 0, api.OpSignals, 7, api.OpFail, 0)...),
			of(api.FnUpdate, 7, list(api.OpDraw, 0, api.OpJumpz, 2, api.OpRet, 0)...),
			of(api.FnUpdate, 0, ret()...),
		},
		Opts: []api.Opts{
			{Queue: 7, Start: 1, Close: 200, Total: 1 << 20, Beat: 4, First: 5, Num: 1000, Den: 999, Most: 8, Tries: 1000, Never: -1},
			{Num: 1, Den: 1, Never: math.MaxInt64},
		},
	}
}

// copied is a program that shares no memory with another one.
func copied(p api.Program) api.Program {
	funcs := slices.Clone(p.Funcs)
	for f := range funcs {
		funcs[f].Ops = slices.Clone(funcs[f].Ops)
	}
	return api.Program{Funcs: funcs, Opts: slices.Clone(p.Opts)}
}

// checkCheck: what Check answers of a program, which it leaves as it is, and what Encode answers of it, too.
func checkCheck(t *testing.T, what string, p api.Program, err api.Errno, f, i int) {
	t.Helper()
	was := copied(p)
	if e, g, k := code.Check(p); e != err || g != f || k != i {
		t.Errorf("Check, %s: %d %d %d, want %d %d %d", what, e, g, k, err, f, i)
	}
	if s, e := code.Encode(p); e != err || (s != "") != (err == api.OK) {
		t.Errorf("Encode, %s: %q %d, want %d", what, s, e, err)
	}
	if !reflect.DeepEqual(p, was) {
		t.Errorf("%s: the program has changed", what)
	}
}

// checkMayBe: a program may be.
func checkMayBe(t *testing.T, what string, p api.Program) {
	t.Helper()
	checkCheck(t, what, p, api.OK, 0, 0)
}

// checkRefused: a program may not be, there.
func checkRefused(t *testing.T, what string, p api.Program, f, i int) {
	t.Helper()
	checkCheck(t, what, p, api.ErrProgram, f, i)
}

// strange are numbers far away from all that may be.
var strange = []int64{math.MinInt64, math.MinInt64 + 1, -1 << 40, -1 << 32, -1<<32 + 20, -38, -2, -1, 1 << 31, 1 << 32, 1<<32 + 17, 1 << 40, 1<<40 + 1, 1 << 62, math.MaxInt64 - 1, math.MaxInt64}

// P13.1: of each opcode from 0 on, as the table and the words say it; o: it has an operand; p: it is pure.
func TestOperandAndPure(t *testing.T) {
	const operands = "o............oooo...o.o..ooo.....oo..."
	const pures = "pppppppppppppppp.pp.......p.........pp"
	if len(operands) != 38 || len(pures) != 38 {
		t.Fatal("the test's own rows")
	}
	for op := range 38 {
		if got, want := code.Operand(op), operands[op] == 'o'; got != want {
			t.Errorf("Operand(%d): %v, want %v", op, got, want)
		}
		if got, want := code.Pure(op), pures[op] == 'p'; got != want {
			t.Errorf("Pure(%d): %v, want %v", op, got, want)
		}
	}
	for _, n := range append(slices.Clone(strange), 38, 39, 64, 128, 255, 256, 256+17) {
		if code.Operand(int(n)) || code.Pure(int(n)) {
			t.Errorf("%d: it is no opcode: %v %v", n, code.Operand(int(n)), code.Pure(int(n)))
		}
	}
}

// P13.3
func TestFind(t *testing.T) {
	p := whole()
	for _, c := range []struct{ kind, name, f int }{
		{api.FnMain, 0, 0}, {api.FnSub, 0, 1}, {api.FnCheck, 7, 2}, {api.FnQuery, 7, 3}, {api.FnUpdate, 7, 4}, {api.FnUpdate, 0, 5},
		{api.FnMain, 1, -1}, {api.FnSub, 7, -1}, {api.FnCheck, 0, -1}, {api.FnQuery, 0, -1}, {api.FnUpdate, 1, -1}, {5, 0, -1}, {-1, 0, -1}, {api.FnUpdate, -1, -1}, {math.MaxInt, math.MinInt, -1},
	} {
		if f := code.Find(p, c.kind, c.name); f != c.f {
			t.Errorf("Find(%d, %d): %d, want %d", c.kind, c.name, f, c.f)
		}
	}
	if f := code.Find(api.Program{}, 0, 0); f != -1 {
		t.Errorf("Find in nothing: %d", f)
	}
}

// P13.3: the first one, also of programs that may not be.
func TestFindOfAnyProgram(t *testing.T) {
	r := rand.New(rand.NewSource(1))
	for range 2000 {
		var p api.Program
		for range r.Intn(40) {
			p.Funcs = append(p.Funcs, of(r.Intn(8)-1, r.Intn(11)-1))
		}
		was := copied(p)
		for kind := -2; kind < 8; kind++ {
			for name := -2; name < 11; name++ {
				want := slices.IndexFunc(p.Funcs, func(fn api.Func) bool { return [2]int{fn.Kind, fn.Name} == [2]int{kind, name} })
				if f := code.Find(p, kind, name); f != want {
					t.Fatalf("Find(%d, %d): %d, want %d", kind, name, f, want)
				}
			}
		}
		if !reflect.DeepEqual(p, was) {
			t.Fatal("Find has changed the program")
		}
	}
	p := api.Program{Funcs: []api.Func{of(math.MinInt, math.MaxInt), of(math.MinInt, math.MaxInt), of(4, math.MaxInt)}}
	if f := code.Find(p, math.MinInt, math.MaxInt); f != 0 {
		t.Errorf("Find of odd numbers: %d", f)
	}
}
