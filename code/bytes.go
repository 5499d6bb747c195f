package code

import (
	"tapestry/api"
	"tapestry/codec"
)

// maxUint is the greatest number without a sign that a program's bytes may have.
const maxUint = 1 << 40

// Encode is a program as bytes.
func Encode(p api.Program) (string, api.Errno) {
	if err, _, _ := Check(p); err != api.OK {
		return "", err
	}
	b := putUints(nil, len(p.Funcs))
	for _, fn := range p.Funcs {
		b = putUints(b, fn.Kind, fn.Name, len(fn.Ops))
		for _, op := range fn.Ops {
			b = putOp(b, op)
		}
	}
	b = putUints(b, len(p.Opts))
	for _, o := range p.Opts {
		b = putOpts(b, o)
	}
	return string(b), api.OK
}

// Decode reads it; what is wrong, and where.
func Decode(s string) (api.Program, api.Errno, int) {
	r := reader{s: s}
	var p api.Program
	for range r.unsigned(api.MaxFuncs) {
		p.Funcs = append(p.Funcs, r.function())
	}
	for range r.unsigned(api.MaxOpts) {
		p.Opts = append(p.Opts, r.opts())
	}
	if r.err == api.OK && r.at < len(s) {
		r.err = api.ErrForm
	}
	if r.err != api.OK {
		return api.Program{}, r.err, r.at
	}
	if err, _, _ := Check(p); err != api.OK {
		return api.Program{}, err, 0
	}
	return p, api.OK, 0
}

// putUints puts numbers, none of which is below 0, behind bytes.
func putUints[N int | int64](b []byte, l ...N) []byte {
	for _, n := range l {
		b = append(b, codec.PutUint(uint64(n))...)
	}
	return b
}

// putOp puts an instruction behind bytes.
func putOp(b []byte, op api.Op) []byte {
	b = putUints(b, op.Code)
	if Operand(op.Code) {
		b = append(b, codec.PutInt(op.A)...)
	}
	return b
}

// putOpts puts how an activity is done behind bytes.
func putOpts(b []byte, o api.Opts) []byte {
	b = putUints(b, o.Queue)
	b = putUints(b, o.Start, o.Close, o.Total, o.Beat, o.First, o.Num, o.Den, o.Most)
	b = putUints(b, o.Tries)
	return append(b, codec.PutInt(o.Never)...)
}

// reader reads bytes from the left; at the first error it stays for good, and reads noughts from then on.
type reader struct {
	s   string
	at  int
	err api.Errno
}

// goOn goes over so many bytes; false: these, or some ahead of them, may not be.
func (r *reader) goOn(many int, err api.Errno) bool {
	if r.err == api.OK {
		r.err = err
	}
	if r.err != api.OK {
		return false
	}
	r.at += many
	return true
}

// unsigned is the next number without a sign, which is at most so much.
func (r *reader) unsigned(most uint64) int64 {
	n, many, err := codec.TakeUint(r.s[r.at:])
	if err == api.OK && n > most {
		err = api.ErrForm
	}
	if !r.goOn(many, err) {
		return 0
	}
	return int64(n)
}

// signed is the next number with a sign.
func (r *reader) signed() int64 {
	n, many, err := codec.TakeInt(r.s[r.at:])
	if !r.goOn(many, err) {
		return 0
	}
	return n
}

// function is the next function.
func (r *reader) function() api.Func {
	fn := api.Func{Kind: int(r.unsigned(maxUint)), Name: int(r.unsigned(maxUint))}
	for range r.unsigned(api.MaxOps) {
		fn.Ops = append(fn.Ops, r.op())
	}
	return fn
}

// op is the next instruction.
func (r *reader) op() api.Op {
	op := api.Op{Code: int(r.unsigned(maxUint))}
	if Operand(op.Code) {
		op.A = r.signed()
	}
	return op
}

// opts is how the next activity is done.
func (r *reader) opts() api.Opts {
	o := api.Opts{Queue: int(r.unsigned(maxUint))}
	for _, ticks := range [...]*int64{&o.Start, &o.Close, &o.Total, &o.Beat, &o.First, &o.Num, &o.Den, &o.Most} {
		*ticks = r.unsigned(maxUint)
	}
	o.Tries, o.Never = int(r.unsigned(maxUint)), r.signed()
	return o
}
