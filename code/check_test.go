package code_test

import (
	"math"
	"slices"
	"strconv"
	"testing"

	"tapestry/api"
)

// P13.2, 1.
func TestCheckHowMany(t *testing.T) {
	checkRefused(t, "nothing", api.Program{}, -1, -1)
	checkRefused(t, "no functions", api.Program{Funcs: []api.Func{}, Opts: []api.Opts{plain()}}, -1, -1)
	for n := range 40 {
		p := with(slices.Repeat([]api.Func{of(api.FnSub, 0, ret()...)}, n)...)
		if n+1 <= 16 {
			checkMayBe(t, "functions", p)
		} else {
			checkRefused(t, "functions", p, -1, -1)
		}
		p = done(slices.Repeat([]api.Opts{plain()}, n)...)
		if n <= 8 {
			checkMayBe(t, "Opts", p)
		} else {
			checkRefused(t, "Opts", p, -1, -1)
		}
	}
	many := with(slices.Repeat([]api.Func{of(9, 9)}, 100000)...)
	many.Opts = slices.Repeat([]api.Opts{{Queue: -1}}, 100000)
	checkRefused(t, "very many", many, -1, -1)
}

// P13.2, 1 ahead of 2 ahead of 3.
func TestCheckRulesInOrder(t *testing.T) {
	bad := of(api.FnMain, 1, list(99, 9)...)
	p := api.Program{Funcs: []api.Func{of(api.FnSub, 0)}, Opts: []api.Opts{plain(), {}, {Queue: 9}}}
	checkRefused(t, "Opts ahead of functions", p, -1, 1)
	p.Opts = append(p.Opts, slices.Repeat([]api.Opts{plain()}, 6)...)
	checkRefused(t, "how many Opts there are ahead of them", p, -1, -1)
	p = with(slices.Repeat([]api.Func{bad}, 16)...)
	p.Opts = []api.Opts{{}}
	checkRefused(t, "how many functions there are ahead of Opts", p, -1, -1)
	p.Funcs = p.Funcs[:16]
	checkRefused(t, "Opts", p, -1, 0)
	p.Opts = nil
	checkRefused(t, "functions", p, 1, -1)
	p.Funcs[1] = of(api.FnSub, 0, list(api.OpPop, 0, 99, 0)...)
	checkRefused(t, "an instruction ahead of the next function", p, 1, 1)
	p.Funcs[0].Ops[0].A = 1
	checkRefused(t, "the function 0 ahead of all", p, 0, 0)
	p.Funcs[0].Name = 1
	checkRefused(t, "a function ahead of its instructions", p, 0, -1)
}

// ranged is a field of Opts, and what it may be.
type ranged struct {
	name        string
	least, most int64
	set         func(o *api.Opts, n int64)
}

// fields are the fields of Opts that are asked by themselves.
func fields() []ranged {
	return []ranged{
		{"Queue", 0, 7, func(o *api.Opts, n int64) { o.Queue = int(n) }},
		{"Start", 0, 1 << 20, func(o *api.Opts, n int64) { o.Start = n }},
		{"Close", 0, 1 << 20, func(o *api.Opts, n int64) { o.Close = n }},
		{"Total", 0, 1 << 20, func(o *api.Opts, n int64) { o.Total = n }},
		{"Beat", 0, 1 << 20, func(o *api.Opts, n int64) { o.Beat = n }},
		{"First", 0, 1 << 20, func(o *api.Opts, n int64) { o.First = n }},
		{"Most", 0, 1 << 20, func(o *api.Opts, n int64) { o.Most = n }},
		{"Tries", 0, 1000, func(o *api.Opts, n int64) { o.Tries = int(n) }},
		{"Never", math.MinInt64, math.MaxInt64, func(o *api.Opts, n int64) { o.Never = n }},
	}
}

// P13.2, 2: each field by itself, in each place.
func TestCheckOpts(t *testing.T) {
	for _, c := range fields() {
		tried := append(slices.Clone(strange), c.least, c.least+1, c.most-1, c.most, 0, 1, 7, 8, 1000, 1001, 1<<20, 1<<20+1)
		if c.most < math.MaxInt64 {
			tried = append(tried, c.least-1, c.most+1)
		}
		for _, n := range tried {
			for k := range 8 {
				l := slices.Repeat([]api.Opts{plain()}, 8)
				c.set(&l[k], n)
				if what := c.name + " " + strconv.FormatInt(n, 10); c.least <= n && n <= c.most {
					checkMayBe(t, what, done(l...))
				} else {
					checkRefused(t, what, done(l...), -1, k)
				}
			}
		}
	}
	two := done(plain(), plain(), api.Opts{}, plain(), api.Opts{Queue: 8})
	checkRefused(t, "the first of two", two, -1, 2)
}

// P13.2, 2: Den 1 to 1000, Num Den to 1000.
func TestCheckNumAndDen(t *testing.T) {
	tried := append(slices.Clone(strange), 0, 1, 2, 3, 500, 998, 999, 1000, 1001, 1002, 2000)
	for _, num := range tried {
		for _, den := range tried {
			p := done(plain(), api.Opts{Num: num, Den: den})
			if what := strconv.FormatInt(num, 10) + " by " + strconv.FormatInt(den, 10); den < 1 || den > 1000 || num < den || num > 1000 {
				checkRefused(t, what, p, -1, 1)
			} else {
				checkMayBe(t, what, p)
			}
		}
	}
}

// P13.2, 3: kinds, and where the function 0 is.
func TestCheckKinds(t *testing.T) {
	for kind := -3; kind < 9; kind++ {
		p := with(of(kind, 0, ret()...))
		first := api.Program{Funcs: []api.Func{of(kind, 0, ret()...)}}
		switch kind {
		case 0:
			checkMayBe(t, "FnMain as the first", first)
			checkRefused(t, "a second FnMain", p, 1, -1)
		case 1, 2, 3:
			checkRefused(t, "no FnMain as the first", first, 0, -1)
			checkMayBe(t, "another kind", p)
		default:
			checkRefused(t, "no kind, or FnCheck, as the first", first, 0, -1)
			checkRefused(t, "no kind, or FnCheck by itself", p, 1, -1)
		}
	}
	for _, n := range strange {
		checkRefused(t, "no kind", with(of(int(n), 0, ret()...)), 1, -1)
		checkRefused(t, "no kind as the first", api.Program{Funcs: []api.Func{of(int(n), 0, ret()...)}}, 0, -1)
	}
	late := api.Program{Funcs: []api.Func{of(api.FnSub, 0, ret()...), of(api.FnMain, 0, ret()...)}}
	checkRefused(t, "FnMain behind another one", late, 0, -1)
	for n := range 15 {
		p := with(slices.Repeat([]api.Func{of(api.FnSub, 0, ret()...)}, n)...)
		p.Funcs = append(p.Funcs, of(api.FnMain, 0, ret()...))
		checkRefused(t, "FnMain as the last", p, n+1, -1)
	}
}

// P13.2, 3: names.
func TestCheckNames(t *testing.T) {
	for _, n := range append(slices.Clone(strange), -3, 0, 1, 2, 3, 4, 5, 6, 7, 8, 9, 15, 16) {
		name, what := int(n), "the name "+strconv.FormatInt(n, 10)
		main := api.Program{Funcs: []api.Func{of(api.FnMain, name, ret()...)}}
		sub := with(of(api.FnSub, name, ret()...))
		query := with(of(api.FnQuery, name, ret()...))
		update := with(of(api.FnUpdate, name, ret()...))
		check := with(of(api.FnCheck, name, ret()...), of(api.FnUpdate, name, ret()...))
		if name == 0 {
			checkMayBe(t, what+" of FnMain", main)
			checkMayBe(t, what+" of FnSub", sub)
		} else {
			checkRefused(t, what+" of FnMain", main, 0, -1)
			checkRefused(t, what+" of FnSub", sub, 1, -1)
		}
		if 0 <= name && name < 8 {
			checkMayBe(t, what+" of FnQuery", query)
			checkMayBe(t, what+" of FnUpdate", update)
			checkMayBe(t, what+" of FnCheck", check)
		} else {
			checkRefused(t, what+" of FnQuery", query, 1, -1)
			checkRefused(t, what+" of FnUpdate", update, 1, -1)
			checkRefused(t, what+" of FnCheck", check, 1, -1)
		}
	}
}

// P13.2, 3: two of a kind and a name.
func TestCheckTwoOfAName(t *testing.T) {
	checkMayBe(t, "two FnSub", with(of(api.FnSub, 0, ret()...), of(api.FnSub, 0, ret()...)))
	for _, kind := range []int{api.FnQuery, api.FnUpdate, api.FnCheck} {
		for first := range 8 {
			for second := range 8 {
				p := with(of(kind, first, ret()...), of(api.FnSub, 0, ret()...), of(kind, second, ret()...))
				if kind == api.FnCheck {
					p.Funcs = append(p.Funcs, of(api.FnUpdate, first, ret()...))
					if first != second {
						p.Funcs = append(p.Funcs, of(api.FnUpdate, second, ret()...))
					}
				}
				if first == second {
					checkRefused(t, "the same name twice", p, 3, -1)
				} else {
					checkMayBe(t, "two names", p)
				}
			}
		}
	}
	for name := range 8 {
		three := []api.Func{of(api.FnQuery, name, ret()...), of(api.FnUpdate, name, ret()...), of(api.FnCheck, name, ret()...)}
		checkMayBe(t, "one name of three kinds", with(three...))
		slices.Reverse(three)
		checkMayBe(t, "one name of three kinds", with(three...))
		checkRefused(t, "one name of three kinds, and of one twice", with(append(three, three[1])...), 4, -1)
	}
}

// P13.2, 3: an FnCheck has an FnUpdate, ahead of it or behind.
func TestCheckOfNoUpdate(t *testing.T) {
	for name := range 8 {
		for update := range 8 {
			ahead := with(of(api.FnUpdate, update, ret()...), of(api.FnCheck, name, ret()...))
			behind := with(of(api.FnCheck, name, ret()...), of(api.FnQuery, name, ret()...), of(api.FnUpdate, update, ret()...))
			if name == update {
				checkMayBe(t, "an update of that name ahead", ahead)
				checkMayBe(t, "an update of that name behind", behind)
			} else {
				checkRefused(t, "an update of another name ahead", ahead, 2, -1)
				checkRefused(t, "an update of another name behind", behind, 1, -1)
			}
		}
		checkRefused(t, "a query of that name", with(of(api.FnQuery, name, ret()...), of(api.FnCheck, name, ret()...)), 2, -1)
	}
	checkRefused(t, "FnSub", with(of(api.FnSub, 0, ret()...), of(api.FnCheck, 0, ret()...)), 2, -1)
	broken := with(of(api.FnCheck, 3, ret()...), of(api.FnUpdate, 3))
	checkRefused(t, "an update that may not be itself", broken, 2, -1)
}

// P13.2, 3: how many instructions.
func TestCheckHowManyInstructions(t *testing.T) {
	for _, n := range []int{0, 1, 2, 3, 100, 126, 127, 128, 129, 130, 255, 256, 257, 70000} {
		for _, kind := range []int{api.FnMain, api.FnSub, api.FnQuery, api.FnUpdate} {
			fn := of(kind, 0, slices.Repeat(list(api.OpRet, 0), n)...)
			p, f := with(fn), 1
			if kind == api.FnMain {
				p, f = api.Program{Funcs: []api.Func{fn}}, 0
			}
			if n == 0 || n > 128 {
				checkRefused(t, strconv.Itoa(n)+" instructions", p, f, -1)
			} else {
				checkMayBe(t, strconv.Itoa(n)+" instructions", p)
			}
		}
	}
	checkRefused(t, "no instructions ahead of what they are", with(of(api.FnQuery, 0), of(api.FnQuery, 1, list(99, 0)...)), 1, -1)
	checkRefused(t, "too many ahead of what they are", with(of(api.FnQuery, 0, slices.Repeat(list(99, 9), 129)...)), 1, -1)
}

// P13.2, 3: what is no opcode.
func TestCheckOpcodes(t *testing.T) {
	for _, n := range append(slices.Clone(strange), 38, 39, 127, 128, 255, 256) {
		for i := range 4 {
			ops := list(api.OpPop, 0, api.OpPop, 0, api.OpPop, 0, api.OpRet, 0)
			ops[i].Code = int(n)
			checkRefused(t, "no opcode in main", api.Program{Funcs: []api.Func{of(api.FnMain, 0, ops...)}}, 0, i)
			checkRefused(t, "no opcode in a query", with(of(api.FnQuery, 0, ops...)), 1, i)
			checkRefused(t, "no opcode in an update", with(of(api.FnUpdate, 0, ops...)), 1, i)
		}
	}
	for op := range 38 {
		checkMayBe(t, "opcode "+strconv.Itoa(op), operandOf(op, 1))
	}
}

// operandOf is a program with an instruction that has a certain operand, of six functions, five Opts, and five instructions in the function.
func operandOf(op int, a int64) api.Program {
	main := list(api.OpNot, 0, int64(op), a, api.OpNot, 0, api.OpNot, 0, api.OpRet, 0)
	switch op {
	case api.OpPush, api.OpJump, api.OpJumpz, api.OpLoad, api.OpStore, api.OpAct, api.OpChild, api.OpWait, api.OpSignals, api.OpGo, api.OpAttr, api.OpTell:
	default:
		main[1].A = 0
	}
	sub := of(api.FnSub, 0, ret()...)
	return api.Program{
		Funcs: []api.Func{of(api.FnMain, 0, main...), sub, of(api.FnQuery, 0, ret()...), sub, of(api.FnUpdate, 0, ret()...), sub},
		Opts:  slices.Repeat([]api.Opts{plain()}, 5),
	}
}

// P13.2, 3: operands, one by one.
func TestCheckOperands(t *testing.T) {
	tried := slices.Clone(strange)
	for n := int64(-3); n < 300; n++ {
		tried = append(tried, n)
	}
	most := map[int]int64{api.OpJump: 4, api.OpJumpz: 4, api.OpLoad: 15, api.OpStore: 15, api.OpAct: 4, api.OpChild: 7, api.OpWait: 7, api.OpSignals: 7, api.OpTell: 7, api.OpAttr: 3}
	for op := range 38 {
		for _, a := range tried {
			p := operandOf(op, 0)
			p.Funcs[0].Ops[1].A = a
			last, some := most[op]
			may := a == 0
			switch {
			case op == api.OpPush:
				may = true
			case op == api.OpGo:
				may = a == 1 || a == 3 || a == 5
			case some:
				may = 0 <= a && a <= last
			}
			what := strconv.Itoa(op) + " with " + strconv.FormatInt(a, 10)
			if may {
				checkMayBe(t, what, p)
			} else {
				checkRefused(t, what, p, 0, 1)
			}
		}
	}
}

// P13.2, 3: operands that hang on the function, or on the program.
func TestCheckOperandsOfWhere(t *testing.T) {
	other := slices.Repeat(list(api.OpRet, 0), 50)
	for n := 2; n <= 128; n++ {
		for _, op := range []int{api.OpJump, api.OpJumpz} {
			for f := range 2 {
				ops := slices.Repeat(list(api.OpRet, 0), n)
				p := api.Program{Funcs: []api.Func{of(api.FnMain, 0, other...), of(api.FnSub, 0, other...)}}
				p.Funcs[f].Ops = ops
				ops[n-2] = api.Op{Code: op, A: int64(n - 1)}
				checkMayBe(t, "to the last one", p)
				ops[n-2].A = int64(n)
				checkRefused(t, "to behind the last one", p, f, n-2)
			}
		}
	}
	for n := range 9 {
		p := done(slices.Repeat([]api.Opts{plain()}, n)...)
		p.Funcs[0].Ops = list(api.OpAct, int64(n-1), api.OpRet, 0)
		if n == 0 {
			checkRefused(t, "OpAct without Opts", p, 0, 0)
		} else {
			checkMayBe(t, "OpAct of the last", p)
		}
		p.Funcs[0].Ops[0].A = int64(n)
		checkRefused(t, "OpAct of none", p, 0, 0)
	}
	self := with(of(api.FnSub, 0, list(api.OpGo, 1, api.OpRet, 0)...))
	checkMayBe(t, "OpGo of itself", self)
	checkRefused(t, "OpGo of a function that may not be itself", with(of(api.FnSub, 0, list(api.OpGo, 2, api.OpRet, 0)...), of(api.FnSub, 0)), 2, -1)
	update := with(of(api.FnUpdate, 0, list(api.OpGo, 2, api.OpRet, 0)...), of(api.FnSub, 0, ret()...))
	checkMayBe(t, "OpGo in an update", update)
	checkRefused(t, "OpGo of FnMain", with(of(api.FnSub, 0, list(api.OpGo, 0, api.OpRet, 0)...)), 1, 0)
}

// P13.2, 3: what may stand in which kind of function.
func TestCheckPure(t *testing.T) {
	const pures = "pppppppppppppppp.pp.......p.........pp"
	for op := range 38 {
		// The function 1 is an FnSub: for OpGo.
		for _, kind := range []int{api.FnSub, api.FnQuery, api.FnUpdate, api.FnCheck} {
			p := with(of(api.FnSub, 0, ret()...), of(kind, 0, list(api.OpArg, 0, int64(op), 0, api.OpRet, 0)...))
			if op == api.OpGo {
				p.Funcs[2].Ops[1].A = 1
			}
			if kind == api.FnCheck {
				p.Funcs = append(p.Funcs, of(api.FnUpdate, 0, ret()...))
			}
			p.Opts = []api.Opts{plain()}
			asks := kind == api.FnQuery || kind == api.FnCheck
			if op == api.OpAgain || asks && pures[op] != 'p' {
				checkRefused(t, "opcode "+strconv.Itoa(op)+" in kind "+strconv.Itoa(kind), p, 2, 1)
			} else {
				checkMayBe(t, "opcode "+strconv.Itoa(op)+" in kind "+strconv.Itoa(kind), p)
			}
		}
	}
}

// P13.2, 3: the last instruction.
func TestCheckLast(t *testing.T) {
	for op := range 38 {
		for ahead := range 3 {
			p := api.Program{Funcs: []api.Func{of(api.FnMain, 0, slices.Repeat(list(api.OpNot, 0), ahead)...), of(api.FnSub, 0, ret()...)}, Opts: []api.Opts{plain()}}
			last := api.Op{Code: op}
			if op == api.OpGo {
				last.A = 1
			}
			p.Funcs[0].Ops = append(p.Funcs[0].Ops, last)
			if slices.Contains([]int{api.OpJump, api.OpAgain, api.OpRet, api.OpFail}, op) {
				checkMayBe(t, "opcode "+strconv.Itoa(op)+" as the last", p)
			} else {
				checkRefused(t, "opcode "+strconv.Itoa(op)+" as the last", p, 0, ahead)
			}
		}
	}
	checkRefused(t, "OpAgain as the last of FnSub", with(of(api.FnSub, 0, list(api.OpArg, 0, api.OpAgain, 0)...)), 1, 1)
	checkRefused(t, "OpAgain as the last of FnUpdate", with(of(api.FnUpdate, 0, list(api.OpArg, 0, api.OpAgain, 0)...)), 1, 1)
	checkMayBe(t, "OpAgain within FnMain", api.Program{Funcs: []api.Func{of(api.FnMain, 0, list(api.OpAgain, 0, api.OpAgain, 0, api.OpRet, 0)...)}})
}

// P13.2, 3: the first instruction that is not so.
func TestCheckFirstInstruction(t *testing.T) {
	for first := range 6 {
		for second := first + 1; second < 6; second++ {
			ops := slices.Repeat(list(api.OpNot, 0), 5)
			ops = append(ops, list(api.OpRet, 0)...)
			ops[first].A, ops[second].Code = 1, 77
			checkRefused(t, "an operand ahead of an opcode", with(of(api.FnQuery, 0, ops...)), 1, first)
			ops[first], ops[second] = api.Op{Code: api.OpDraw}, api.Op{Code: api.OpNot, A: 1}
			checkRefused(t, "what isn't pure ahead of an operand", with(of(api.FnQuery, 0, ops...)), 1, first)
			ops[first], ops[second] = api.Op{Code: api.OpAgain}, api.Op{Code: api.OpDraw}
			checkRefused(t, "OpAgain ahead", with(of(api.FnSub, 0, ops...)), 1, first)
		}
	}
	checkMayBe(t, "all of it", whole())
}
