package code_test

import (
	"math"
	"reflect"
	"slices"
	"strings"
	"testing"

	"tapestry/api"
	"tapestry/code"
	"tapestry/codec"
)

// part is one of the numbers of a program's bytes; most is above what it may be (0: it has a sign).
type part struct {
	bytes string
	most  uint64
}

// parts are a program's bytes, number by number; a program that may not be has such, too, if no number is below 0.
func parts(p api.Program) []part {
	var l []part
	u := func(most uint64, n int64) { l = append(l, part{codec.PutUint(uint64(n)), most}) }
	any := func(ns ...int64) {
		for _, n := range ns {
			u(1<<40, n)
		}
	}
	i := func(n int64) { l = append(l, part{codec.PutInt(n), 0}) }
	u(16, int64(len(p.Funcs)))
	for _, f := range p.Funcs {
		any(int64(f.Kind), int64(f.Name))
		u(128, int64(len(f.Ops)))
		for _, o := range f.Ops {
			any(int64(o.Code))
			if slices.Contains([]int{0, 13, 14, 15, 16, 20, 22, 25, 26, 27, 33, 34}, o.Code) {
				i(o.A)
			}
		}
	}
	u(8, int64(len(p.Opts)))
	for _, o := range p.Opts {
		any(int64(o.Queue), o.Start, o.Close, o.Total, o.Beat, o.First, o.Num, o.Den, o.Most, int64(o.Tries))
		i(o.Never)
	}
	return l
}

// joined are the bytes of parts.
func joined(l []part) string {
	var b strings.Builder
	for _, p := range l {
		b.WriteString(p.bytes)
	}
	return b.String()
}

// same: are two programs the same, where a list without elements is as none?
func same(a, b api.Program) bool {
	if len(a.Opts) == 0 && len(b.Opts) == 0 {
		a.Opts, b.Opts = nil, nil
	}
	return reflect.DeepEqual(a, b)
}

// checkEncode: a program's bytes, and that it is what they are read as.
func checkEncode(t *testing.T, what string, p api.Program, want string) {
	t.Helper()
	s, err := code.Encode(p)
	if err != api.OK || s != want {
		t.Errorf("Encode, %s: % x %d, want % x", what, s, err, want)
	}
	got, err, at := code.Decode(want)
	if err != api.OK || at != 0 || !same(got, p) {
		t.Errorf("Decode, %s: %v %d %d, want %v", what, got, err, at, p)
	}
}

// checkNoProgram: bytes aren't read.
func checkNoProgram(t *testing.T, what, s string, err api.Errno, at int) {
	t.Helper()
	if p, e, n := code.Decode(s); e != err || n != at || !reflect.DeepEqual(p, api.Program{}) {
		t.Errorf("Decode, %s, of % x: %v %d %d, want %d %d", what, s, p, e, n, err, at)
	}
}

// P13.4, P13.6: the bytes themselves.
func TestEncode(t *testing.T) {
	checkEncode(t, "example 1", with(), "\x01\x00\x00\x02\x11\x24\x00")
	checkEncode(t, "a query, and operands", with(of(api.FnQuery, 7, list(api.OpPush, -1, api.OpPush, 300, api.OpSignals, 3, api.OpFail, 0)...)),
		"\x02"+"\x00\x00\x02\x11\x24"+"\x02\x07\x04\x00\x01\x00\xd8\x04\x1a\x06\x25"+"\x00")
	checkEncode(t, "Opts", done(api.Opts{Queue: 1, Start: 2, Close: 300, Total: 1 << 20, Beat: 4, First: 5, Num: 7, Den: 6, Most: 8, Tries: 9, Never: -10}, plain()),
		"\x01\x00\x00\x02\x11\x24"+"\x02"+"\x01\x02\xac\x02\x80\x80\x40\x04\x05\x07\x06\x08\x09\x13"+"\x00\x00\x00\x00\x00\x00\x01\x01\x00\x00\x00")
	least := api.Program{Funcs: []api.Func{of(api.FnMain, 0, list(api.OpPush, math.MinInt64, api.OpJump, 0)...)}, Opts: []api.Opts{}}
	checkEncode(t, "the least number", least, "\x01\x00\x00\x02\x00\xff\xff\xff\xff\xff\xff\xff\xff\xff\x01\x0d\x00\x00")
	long := api.Program{Funcs: []api.Func{of(api.FnMain, 0, slices.Repeat(list(api.OpRet, 0), 128)...)}}
	checkEncode(t, "many instructions", long, "\x01\x00\x00\x80\x01"+strings.Repeat("\x24", 128)+"\x00")
	checkEncode(t, "each opcode", whole(), joined(parts(whole())))
	full := with(slices.Repeat([]api.Func{of(api.FnSub, 0, slices.Repeat(list(api.OpJump, 127), 128)...)}, 15)...)
	full.Opts = slices.Repeat([]api.Opts{{Queue: 7, Start: 1 << 20, Close: 1 << 20, Total: 1 << 20, Beat: 1 << 20, First: 1 << 20, Num: 1000, Den: 1000, Most: 1 << 20, Tries: 1000, Never: math.MinInt64}}, 8)
	checkEncode(t, "as much as may be", full, joined(parts(full)))
}

// P13.4: what Check refuses. (checkCheck asks Encode of all that check_test.go tries.)
func TestEncodeRefuses(t *testing.T) {
	for _, p := range []api.Program{{}, with(of(api.FnSub, 1, ret()...)), done(api.Opts{}), with(of(api.FnQuery, 0, list(api.OpDraw, 0, api.OpRet, 0)...)), {Funcs: []api.Func{of(api.FnMain, 0, list(api.OpArg, 0)...)}}} {
		if s, err := code.Encode(p); s != "" || err != api.ErrProgram {
			t.Errorf("Encode of %v: %q %d", p, s, err)
		}
	}
}

// P13.5: bytes that end anywhere, and such with some behind them.
func TestDecodeCutAnywhere(t *testing.T) {
	l := parts(whole())
	s, ahead := joined(l), 0
	for _, p := range l {
		for n := range p.bytes {
			checkNoProgram(t, "cut off", s[:ahead+n], api.ErrMore, ahead)
		}
		ahead += len(p.bytes)
	}
	if ahead != len(s) {
		t.Fatal("the test's own parts")
	}
	for _, tail := range []string{"\x00", "x", "\xff", "\x80", "\x80\x00", s, strings.Repeat("\x00", 1000)} {
		checkNoProgram(t, "more behind", s+tail, api.ErrForm, len(s))
	}
	checkNoProgram(t, "example 2", "", api.ErrMore, 0)
	checkNoProgram(t, "example 2", "\x01\x00\x00\x02\x11\x24\x00\x00", api.ErrForm, 7)
}

// P13.5: each number in a form that chapter 1 refuses, or too great.
func TestDecodeEachNumber(t *testing.T) {
	l := parts(whole())
	ahead := 0
	for k, p := range l {
		try := func(what, bytes string) {
			t.Helper()
			spoiled := slices.Clone(l)
			spoiled[k].bytes = bytes
			s := joined(spoiled)
			checkNoProgram(t, what, s, api.ErrForm, ahead)
			checkNoProgram(t, what+", with nothing behind it", s[:ahead+len(bytes)], api.ErrForm, ahead)
			checkNoProgram(t, what+", with more behind all", s+"x", api.ErrForm, ahead)
		}
		longer := []byte(p.bytes)
		longer[len(longer)-1] |= 0x80
		try("one byte more than it takes", string(longer)+"\x00")
		try("above all numbers", strings.Repeat("\xff", 9)+"\x02")
		try("without an end", strings.Repeat("\xff", 10))
		if p.most > 0 {
			try("above what it may be", codec.PutUint(p.most+1))
			try("far above", codec.PutUint(1<<40+1))
			try("above by far", codec.PutUint(math.MaxUint64))
			try("as an int below 0", codec.PutUint(1<<63))
			try("as an int32 nothing", codec.PutUint(1<<41))
		}
		ahead += len(p.bytes)
	}
}

// P13.5: a number that may be read, and makes a program that may not be; 2^40 is the greatest one.
func TestDecodeOfWhatMayNotBe(t *testing.T) {
	checkNoProgram(t, "no functions", "\x00\x00", api.ErrProgram, 0)
	checkNoProgram(t, "no functions, and more", "\x00\x00\x00", api.ErrForm, 2)
	checkNoProgram(t, "no instructions", "\x01\x00\x00\x00\x00", api.ErrProgram, 0)
	checkNoProgram(t, "OpArg alone", "\x01\x00\x00\x01\x11\x00", api.ErrProgram, 0)
	checkNoProgram(t, "38", "\x01\x00\x00\x02\x26\x24\x00", api.ErrProgram, 0)
	checkNoProgram(t, "38, and more", "\x01\x00\x00\x02\x26\x24\x00\x24", api.ErrForm, 7)
	most := codec.PutUint(1 << 40)
	checkNoProgram(t, "a Kind", "\x01"+most+"\x00\x02\x11\x24\x00", api.ErrProgram, 0)
	checkNoProgram(t, "a Name", "\x01\x00"+most+"\x02\x11\x24\x00", api.ErrProgram, 0)
	checkNoProgram(t, "an opcode", "\x01\x00\x00\x02"+most+"\x24\x00", api.ErrProgram, 0)
	checkNoProgram(t, "an operand", "\x01\x00\x00\x02\x0d"+codec.PutInt(-1)+"\x24\x00", api.ErrProgram, 0)
	for k := range 10 {
		opts := slices.Repeat([]string{"\x01"}, 11)
		opts[k] = most
		checkNoProgram(t, "Opts", "\x01\x00\x00\x02\x11\x24\x01"+strings.Join(opts, ""), api.ErrProgram, 0)
	}
	checkNoProgram(t, "Queue", "\x01\x00\x00\x02\x11\x24\x01\x08\x00\x00\x00\x00\x00\x01\x01\x00\x00\x00", api.ErrProgram, 0)
	checkNoProgram(t, "seventeen functions", "\x11", api.ErrForm, 0)
	checkNoProgram(t, "sixteen functions", "\x10", api.ErrMore, 1)
	checkNoProgram(t, "129 instructions", "\x01\x00\x00\x81\x01", api.ErrForm, 3)
	checkNoProgram(t, "128 instructions", "\x01\x00\x00\x80\x01", api.ErrMore, 5)
	checkNoProgram(t, "nine Opts", "\x01\x00\x00\x02\x11\x24\x09", api.ErrForm, 6)
	checkNoProgram(t, "eight Opts", "\x01\x00\x00\x02\x11\x24\x08", api.ErrMore, 7)
}

// P13.5, P13.6: the whole program with another byte in one place.
func TestDecodeSpoiledAnywhere(t *testing.T) {
	s := joined(parts(whole()))
	told := map[api.Errno]int{}
	for n := range len(s) {
		for c := range 256 {
			b := []byte(s)
			b[n] = byte(c)
			told[checkDecode(t, string(b))]++
		}
	}
	for _, err := range []api.Errno{api.OK, api.ErrMore, api.ErrForm, api.ErrProgram} {
		if told[err] < 5 {
			t.Errorf("not all was tried: %v", told)
		}
	}
}

// R3: the lists of what is read share no memory, their spare room neither.
func TestDecodeNewMemory(t *testing.T) {
	s := joined(parts(whole()))
	p, _, _ := code.Decode(s)
	q, _, _ := code.Decode(s)
	for f := range p.Funcs {
		ops := p.Funcs[f].Ops
		ops = ops[:cap(ops)]
		for i := range ops {
			ops[i] = api.Op{Code: 99, A: 99}
		}
		if !same(api.Program{Funcs: p.Funcs[f+1:], Opts: p.Opts}, api.Program{Funcs: whole().Funcs[f+1:], Opts: whole().Opts}) {
			t.Fatalf("what stands behind the function %d has changed", f)
		}
	}
	clear(p.Funcs[:cap(p.Funcs)])
	clear(p.Opts[:cap(p.Opts)])
	if !same(q, whole()) {
		t.Error("what was read once more has changed")
	}
}
