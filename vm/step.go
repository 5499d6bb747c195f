package vm

import (
	"tapestry/api"
	"tapestry/code"
)

// course is how a thread goes on behind an instruction.
type course int

const (
	onward  course = iota // with the next one
	waits                 // with the same one, when there is what it waits for
	yields                // with the next one, in the next pass
	returns               // no more: it has answered
	fails                 // no more: it has failed
	faults                // no more: the instruction could not be done
	spent                 // no more: there is no fuel for the instruction
	closes                // no more: the machine is over
)

// purely does a function of pure instructions alone: how it ends, and with what.
func (k *task) purely(fn int, arg int64) (course, int64) {
	t := api.Thread{Func: fn, Arg: arg}
	for {
		if how, value := k.step(&t); how != onward {
			return how, value
		}
	}
}

// step does a thread's next instruction: how it goes on, and what it answers or fails with.
func (k *task) step(t *api.Thread) (course, int64) {
	if k.fuel == 0 {
		return spent, 0
	}
	k.fuel--
	op := k.m.program.Funcs[t.Func].Ops[t.At]
	takes, leaves := moves(op.Code)
	rest := len(t.Stack) - takes
	if rest < 0 || rest+leaves > api.MaxStack {
		return faults, 0
	}
	// What is left is written over what was taken.
	var taken [2]int64
	copy(taken[:], t.Stack[rest:])
	t.Stack = t.Stack[:rest]
	t.At++
	if code.Pure(op.Code) {
		return k.m.pure(t, op, taken[0], taken[1])
	}
	if !k.m.there(op.Code, taken[0]) {
		return faults, 0
	}
	return k.act(t, op, taken[0], taken[1]), 0
}

// moves is how many numbers an instruction takes from the stack, and how many it leaves there. OpAwait and OpWait may leave one more: that hangs on what there is.
func moves(op int) (takes, leaves int) {
	switch op {
	case api.OpPush, api.OpLoad, api.OpArg, api.OpNow, api.OpDraw, api.OpSignals, api.OpScope, api.OpCancelled:
		return 0, 1
	case api.OpPop, api.OpJumpz, api.OpStore, api.OpEnter, api.OpCancel, api.OpAttr, api.OpAgain, api.OpRet, api.OpFail:
		return 1, 0
	case api.OpNot, api.OpAct, api.OpTimer, api.OpChild, api.OpAwait, api.OpReady, api.OpGo:
		return 1, 1
	case api.OpDup:
		return 1, 2
	case api.OpTell:
		return 2, 0
	case api.OpAdd, api.OpSub, api.OpMul, api.OpDiv, api.OpMod, api.OpEq, api.OpLt:
		return 2, 1
	case api.OpSwap:
		return 2, 2
	case api.OpOver:
		return 2, 3
	}
	return 0, 0
}

// push puts numbers on a thread's stack.
func push(t *api.Thread, l ...int64) { t.Stack = append(t.Stack, l...) }

// pure does a pure instruction, which took a, or a and b.
func (m *Machine) pure(t *api.Thread, op api.Op, a, b int64) (course, int64) {
	switch op.Code {
	case api.OpPop:
	case api.OpPush:
		push(t, op.A)
	case api.OpDup:
		push(t, a, a)
	case api.OpSwap:
		push(t, b, a)
	case api.OpOver:
		push(t, a, b, a)
	case api.OpJump:
		t.At = int(op.A)
	case api.OpJumpz:
		if a == 0 {
			t.At = int(op.A)
		}
	case api.OpLoad:
		push(t, m.is.Vars[op.A])
	case api.OpArg:
		push(t, t.Arg)
	case api.OpNow:
		push(t, m.is.Now)
	case api.OpSignals:
		push(t, int64(len(m.is.Signals[op.A])))
	case api.OpRet:
		return returns, a
	case api.OpFail:
		return fails, a
	default:
		push(t, worked(op.Code, a, b))
	}
	return onward, 0
}

// worked is the number that an instruction makes of a, or of a and b, alone.
func worked(op int, a, b int64) int64 {
	switch op {
	case api.OpAdd:
		return a + b
	case api.OpSub:
		return a - b
	case api.OpMul:
		return a * b
	case api.OpEq:
		return truth(a == b)
	case api.OpLt:
		return truth(a < b)
	case api.OpNot:
		return truth(a == 0)
	}
	if b == 0 {
		return 0
	}
	if op == api.OpDiv {
		return a / b
	}
	return a % b
}

// truth is 1 for true, 0 for false.
func truth(is bool) int64 {
	if is {
		return 1
	}
	return 0
}
