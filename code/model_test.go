package code_test

import (
	"math"
	"math/rand"
	"slices"
	"testing"

	"tapestry/api"
	"tapestry/code"
	"tapestry/codec"
)

// pureOps are the opcodes of the pure instructions.
var pureOps = []int{0, 1, 2, 3, 4, 5, 6, 7, 8, 9, 10, 11, 12, 13, 14, 15, 17, 18, 26, 36, 37}

// mostOf is the greatest operand that an opcode may have in a function; -1: it has one of another kind.
func mostOf(p api.Program, f, op int) int {
	switch op {
	case 13, 14:
		return len(p.Funcs[f].Ops) - 1
	case 15, 16:
		return 15
	case 20:
		return len(p.Opts) - 1
	case 22, 25, 26, 34:
		return 7
	case 33:
		return 3
	case 0, 27:
		return -1
	}
	return 0
}

// opStands: may an instruction stand there, as the chapter's words say?
func opStands(p api.Program, f, i int) bool {
	fn := p.Funcs[f]
	op := fn.Ops[i]
	if op.Code < 0 || op.Code > 37 {
		return false
	}
	if op.Code == 27 {
		if op.A < 0 || op.A >= int64(len(p.Funcs)) || p.Funcs[op.A].Kind != 1 {
			return false
		}
	} else if op.Code != 0 && (op.A < 0 || op.A > int64(mostOf(p, f, op.Code))) {
		return false
	}
	if (fn.Kind == 2 || fn.Kind == 4) && !slices.Contains(pureOps, op.Code) {
		return false
	}
	if op.Code == 35 && f > 0 {
		return false
	}
	return i < len(fn.Ops)-1 || slices.Contains([]int{13, 35, 36, 37}, op.Code)
}

// funcStands: may a function stand there, but for its instructions?
func funcStands(p api.Program, f int) bool {
	fn := p.Funcs[f]
	if fn.Kind < 0 || fn.Kind > 4 || (fn.Kind == 0) != (f == 0) || len(fn.Ops) == 0 || len(fn.Ops) > 128 {
		return false
	}
	if fn.Kind < 2 {
		return fn.Name == 0
	}
	if fn.Name < 0 || fn.Name > 7 {
		return false
	}
	updates := 0
	for g, other := range p.Funcs {
		if g < f && other.Kind == fn.Kind && other.Name == fn.Name {
			return false
		}
		if other.Kind == 3 && other.Name == fn.Name {
			updates++
		}
	}
	return fn.Kind != 4 || updates > 0
}

// modelCheck is Check by the chapter's words.
func modelCheck(p api.Program) (api.Errno, int, int) {
	if len(p.Funcs) == 0 || len(p.Funcs) > 16 || len(p.Opts) > 8 {
		return api.ErrProgram, -1, -1
	}
	for k, o := range p.Opts {
		times := []int64{o.Start, o.Close, o.Total, o.Beat, o.First, o.Most}
		if o.Queue < 0 || o.Queue > 7 || slices.Min(times) < 0 || slices.Max(times) > 1<<20 || o.Den < 1 || o.Den > 1000 || o.Num < o.Den || o.Num > 1000 || o.Tries < 0 || o.Tries > 1000 {
			return api.ErrProgram, -1, k
		}
	}
	for f, fn := range p.Funcs {
		if !funcStands(p, f) {
			return api.ErrProgram, f, -1
		}
		for i := range fn.Ops {
			if !opStands(p, f, i) {
				return api.ErrProgram, f, i
			}
		}
	}
	return api.OK, 0, 0
}

// stop is why a model's reading ends.
type stop struct {
	err api.Errno
	at  int
}

// modelDecode is Decode by the chapter's words; its reading is left by a panic.
func modelDecode(s string) (p api.Program, err api.Errno, at int) {
	defer func() {
		if x := recover(); x != nil {
			end := x.(stop)
			p, err, at = api.Program{}, end.err, end.at
		}
	}()
	place := 0
	u := func(most uint64) int {
		n, k, e := codec.TakeUint(s[place:])
		if e != api.OK {
			panic(stop{e, place})
		}
		if n > most {
			panic(stop{api.ErrForm, place})
		}
		place += k
		return int(n)
	}
	i := func() int64 {
		n, k, e := codec.TakeInt(s[place:])
		if e != api.OK {
			panic(stop{e, place})
		}
		place += k
		return n
	}
	const top = 1 << 40
	p.Funcs = make([]api.Func, u(16))
	for f := range p.Funcs {
		fn := &p.Funcs[f]
		fn.Kind = u(top)
		fn.Name = u(top)
		fn.Ops = make([]api.Op, u(128))
		for k := range fn.Ops {
			fn.Ops[k].Code = u(top)
			if c := fn.Ops[k].Code; c == 0 || c >= 13 && c <= 16 || c == 20 || c == 22 || c >= 25 && c <= 27 || c == 33 || c == 34 {
				fn.Ops[k].A = i()
			}
		}
	}
	p.Opts = make([]api.Opts, u(8))
	for k := range p.Opts {
		o := &p.Opts[k]
		o.Queue = u(top)
		for _, field := range []*int64{&o.Start, &o.Close, &o.Total, &o.Beat, &o.First, &o.Num, &o.Den, &o.Most} {
			*field = int64(u(top))
		}
		o.Tries = u(top)
		o.Never = i()
	}
	if place < len(s) {
		panic(stop{api.ErrForm, place})
	}
	if e, _, _ := modelCheck(p); e != api.OK {
		panic(stop{e, 0})
	}
	return p, api.OK, 0
}

// checkDecode: what is read of bytes, held against the model; what was read has those bytes.
func checkDecode(t *testing.T, s string) api.Errno {
	t.Helper()
	want, no, place := modelDecode(s)
	p, err, at := code.Decode(s)
	if err != no || at != place || !same(p, want) {
		t.Fatalf("Decode of % x: %v %d %d, want %v %d %d", s, p, err, at, want, no, place)
	}
	if err != api.OK {
		return err
	}
	if back, e := code.Encode(p); e != api.OK || back != s {
		t.Fatalf("Encode of what % x was read as: % x %d", s, back, e)
	}
	return err
}

// anyOps makes the instructions of a function such as may stand there.
func anyOps(r *rand.Rand, p api.Program, f int) {
	ops := p.Funcs[f].Ops
	for i := range ops {
		for done := false; !done; done = opStands(p, f, i) {
			op := api.Op{Code: r.Intn(38)}
			switch most := mostOf(p, f, op.Code); {
			case op.Code == 0:
				op.A = int64(r.Uint64()) >> r.Intn(64)
			case most < 0:
				op.A = int64(r.Intn(len(p.Funcs)))
			default:
				op.A = int64(r.Intn(most + 1))
			}
			ops[i] = op
		}
	}
}

// anyProgram is a program that may be.
func anyProgram(r *rand.Rand) api.Program {
	var p api.Program
	for range 1 + r.Intn(8) {
		den := 1 + r.Int63n(1000)
		o := api.Opts{Queue: r.Intn(8), Num: den + r.Int63n(1001-den), Den: den, Tries: r.Intn(1001), Never: int64(r.Uint64()) >> r.Intn(64)}
		for _, field := range []*int64{&o.Start, &o.Close, &o.Total, &o.Beat, &o.First, &o.Most} {
			*field = r.Int63n(1<<r.Intn(21) + 1)
		}
		p.Opts = append(p.Opts, o)
	}
	p.Funcs = []api.Func{{}}
	for range r.Intn(16) {
		fn := api.Func{Kind: 1 + r.Intn(4), Name: r.Intn(8)}
		if fn.Kind == 1 {
			fn.Name = 0
		} else if code.Find(p, fn.Kind, fn.Name) >= 0 || fn.Kind == 4 && code.Find(p, 3, fn.Name) < 0 {
			continue
		}
		p.Funcs = append(p.Funcs, fn)
	}
	r.Shuffle(len(p.Funcs)-1, func(i, j int) { p.Funcs[i+1], p.Funcs[j+1] = p.Funcs[j+1], p.Funcs[i+1] })
	for f := range p.Funcs {
		p.Funcs[f].Ops = make([]api.Op, 1+r.Intn(1<<r.Intn(8)))
		anyOps(r, p, f)
	}
	return p
}

// anyNumber is a number that is often one that may just be, or just may not.
func anyNumber(r *rand.Rand) int64 {
	edges := []int64{-1, 0, 1, 2, 3, 4, 7, 8, 15, 16, 37, 38, 127, 128, 999, 1000, 1001, 1 << 20, 1<<20 + 1, 1 << 40, math.MinInt64, math.MaxInt64}
	return edges[r.Intn(len(edges))]
}

// spoil changes something of a program.
func spoil(r *rand.Rand, p *api.Program) {
	f := r.Intn(len(p.Funcs))
	fn := &p.Funcs[f]
	o := &p.Opts[r.Intn(len(p.Opts))]
	n := anyNumber(r)
	op := &api.Op{}
	if len(fn.Ops) > 0 {
		op = &fn.Ops[r.Intn(len(fn.Ops))]
	}
	switch r.Intn(13) {
	case 0:
		fn.Kind = int(n)
	case 1:
		fn.Name = int(n)
	case 2, 3:
		op.Code = r.Intn(40) - 1
	case 4, 5:
		op.A = n
	case 6:
		p.Funcs = append(p.Funcs, *fn)
	case 7:
		fn.Ops = fn.Ops[:r.Intn(len(fn.Ops)+1)]
	case 8:
		fn.Kind, fn.Name = 2+r.Intn(3), r.Intn(8)
	case 9:
		p.Funcs = slices.Delete(p.Funcs, f, f+1)
		if len(p.Funcs) == 0 {
			p.Funcs = []api.Func{{}}
		}
	case 10:
		field := []*int64{&o.Start, &o.Close, &o.Total, &o.Beat, &o.First, &o.Most, &o.Num, &o.Den, &o.Never}
		*field[r.Intn(len(field))] = n
	case 11:
		o.Queue, o.Tries = int(n), int(anyNumber(r))
	case 12:
		if len(p.Opts) > 4 {
			p.Opts = slices.Concat(p.Opts, p.Opts)
		}
	}
}

// P13.2, P13.4, P13.5, P13.6: any programs, such as may be and spoiled ones.
func TestAnyPrograms(t *testing.T) {
	r := rand.New(rand.NewSource(2))
	told := map[string]int{}
	for range 6000 {
		p := anyProgram(r)
		checkMayBe(t, "any program", p)
		checkEncode(t, "any program", p, joined(parts(p)))
		for range 1 + r.Intn(3) {
			spoil(r, &p)
		}
		err, f, i := modelCheck(p)
		checkCheck(t, "a spoiled program", p, err, f, i)
		if t.Failed() {
			t.FailNow()
		}
		if !belowNought(p) {
			checkDecode(t, joined(parts(p)))
		}
		switch {
		case err == api.OK:
			told["may be"]++
		case f < 0 && i < 0:
			told["how many"]++
		case f < 0:
			told["Opts"]++
		case i < 0:
			told["a function"]++
		default:
			told["an instruction"]++
		}
	}
	for _, what := range []string{"may be", "how many", "Opts", "a function", "an instruction"} {
		if told[what] < 20 {
			t.Errorf("not all was tried: %v", told)
		}
	}
}

// belowNought: has a program a number below 0 that its bytes have without a sign?
func belowNought(p api.Program) bool {
	low := 0
	for _, fn := range p.Funcs {
		low = min(low, fn.Kind, fn.Name)
		for _, op := range fn.Ops {
			low = min(low, op.Code)
		}
	}
	for _, o := range p.Opts {
		low = min(low, o.Queue, o.Tries, int(slices.Min([]int64{o.Start, o.Close, o.Total, o.Beat, o.First, o.Num, o.Den, o.Most})))
	}
	return low < 0
}

// P13.5, P13.6: all short rows of some bytes, with and without a beginning that may be.
func TestDecodeShortRows(t *testing.T) {
	alphabet := "\x00\x01\x02\x0d\x11\x24\x80"
	told := map[api.Errno]int{}
	rows := []string{""}
	for range 6 {
		var next []string
		for _, row := range rows {
			for i := range len(alphabet) {
				next = append(next, row+alphabet[i:i+1])
			}
		}
		for _, row := range next {
			told[checkDecode(t, row)]++
			told[checkDecode(t, "\x01\x00\x00"+row)]++
		}
		rows = next
	}
	for _, err := range []api.Errno{api.OK, api.ErrMore, api.ErrForm, api.ErrProgram} {
		if told[err] < 10 {
			t.Errorf("not all was tried: %v", told)
		}
	}
}

// P13.5, R1: any bytes.
func TestDecodeAnyBytes(t *testing.T) {
	r := rand.New(rand.NewSource(3))
	for range 100000 {
		b := make([]byte, r.Intn(60))
		top := 1 + r.Intn(1<<(1+r.Intn(8)))
		for i := range b {
			b[i] = byte(r.Intn(top))
		}
		if r.Intn(2) == 0 {
			b = append([]byte{byte(1 + r.Intn(2)), 0, 0, byte(r.Intn(8))}, b...)
		}
		checkDecode(t, string(b))
	}
}
