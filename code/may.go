package code

import "tapestry/api"

const (
	maxPart  = 1000 // of Num and Den, by which a wait is made longer
	maxTries = 1000
)

// within: is a number one of 0 to below a bound?
func within(n, bound int64) bool { return 0 <= n && n < bound }

// optsMayBe: may an activity be done so?
func optsMayBe(o api.Opts) bool {
	for _, ticks := range [...]int64{o.Start, o.Close, o.Total, o.Beat, o.First, o.Most} {
		if !within(ticks, api.MaxWait+1) {
			return false
		}
	}
	return within(int64(o.Queue), api.MaxQueues) && 1 <= o.Den && o.Den <= o.Num && o.Num <= maxPart && within(int64(o.Tries), maxTries+1)
}

// funcMayBe: may the function f stand in its place, whatever its instructions are?
func funcMayBe(p api.Program, f int) bool {
	fn := p.Funcs[f]
	return (fn.Kind == api.FnMain) == (f == 0) && nameMayBe(p, f) && within(int64(len(fn.Ops))-1, api.MaxOps)
}

// nameMayBe: are the Kind and the Name of the function f such as may be, and its own alone?
func nameMayBe(p api.Program, f int) bool {
	fn := p.Funcs[f]
	switch fn.Kind {
	case api.FnMain, api.FnSub:
		return fn.Name == 0
	case api.FnCheck:
		if Find(p, api.FnUpdate, fn.Name) < 0 {
			return false
		}
		fallthrough
	case api.FnQuery, api.FnUpdate:
		return within(int64(fn.Name), api.MaxNames) && Find(p, fn.Kind, fn.Name) == f
	}
	return false
}

// stray is the first instruction of the function f that may not stand where it does; -1: there is none.
func stray(p api.Program, f int) int {
	fn, at := p.Funcs[f], -1
	pure := fn.Kind == api.FnQuery || fn.Kind == api.FnCheck
look:
	for i, op := range fn.Ops {
		switch {
		case !within(int64(op.Code), api.OpFail+1),
			!operandMayBe(p, f, op),
			pure && !Pure(op.Code),
			op.Code == api.OpAgain && f != 0,
			i == len(fn.Ops)-1 && !leaves(op.Code):
			at = i
			break look
		}
	}
	return at
}

// operandMayBe: is the operand of an instruction of the function f such as its opcode takes?
func operandMayBe(p api.Program, f int, op api.Op) bool {
	switch op.Code {
	case api.OpPush:
		return true
	case api.OpJump, api.OpJumpz:
		return within(op.A, int64(len(p.Funcs[f].Ops)))
	case api.OpLoad, api.OpStore:
		return within(op.A, api.Vars)
	case api.OpAct:
		return within(op.A, int64(len(p.Opts)))
	case api.OpChild:
		return within(op.A, api.MaxPrograms)
	case api.OpWait, api.OpSignals, api.OpTell:
		return within(op.A, api.MaxNames)
	case api.OpGo:
		return within(op.A, int64(len(p.Funcs))) && p.Funcs[op.A].Kind == api.FnSub
	case api.OpAttr:
		return within(op.A, api.MaxAttrs)
	}
	return op.A == 0
}

// leaves: does an opcode never go on to the instruction behind it?
func leaves(op int) bool {
	switch op {
	case api.OpJump, api.OpAgain, api.OpRet, api.OpFail:
		return true
	}
	return false
}
