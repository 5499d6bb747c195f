package timing_test

import (
	"math"
	"math/big"
	"math/rand"
	"slices"
	"testing"
	"time"

	"tapestry/api"
	"tapestry/code"
	"tapestry/timing"
)

const maxTime = 1 << 41 // of the times that are handed in

// example is how the chapter's example waits.
func example() api.Opts { return api.Opts{First: 10, Num: 3, Den: 2, Most: 40} }

// mayBe: does chapter 13's Check let the options be?
func mayBe(o api.Opts) bool {
	ops := []api.Op{{Code: api.OpArg}, {Code: api.OpRet}}
	err, _, _ := code.Check(api.Program{Funcs: []api.Func{{Ops: ops}}, Opts: []api.Opts{o}})
	return err == api.OK
}

func one[T any](r *rand.Rand, l ...T) T { return l[r.Intn(len(l))] }

// ticks are some that an option may have.
func ticks(r *rand.Rand) int64 {
	return one(r, 0, 1, 2, 3, 10, 999, 1000, api.MaxWait-1, api.MaxWait, r.Int63n(50), r.Int63n(5000), r.Int63n(api.MaxWait+1))
}

// opts are such as may be.
func opts(t *testing.T, r *rand.Rand) api.Opts {
	t.Helper()
	den := one(r, 1, 2, 3, 7, 999, 1000, 1+r.Int63n(1000))
	num := one(r, den, min(den+1, 1000), 1000, den+r.Int63n(1001-den))
	o := api.Opts{
		Queue: r.Intn(api.MaxQueues), Start: ticks(r), Close: ticks(r), Total: one(r, 0, ticks(r)), Beat: ticks(r),
		First: ticks(r), Num: num, Den: den, Most: one(r, 0, ticks(r)),
		Tries: one(r, 0, 1, 2, 3, r.Intn(50), 999, 1000),
		Never: one[int64](r, 0, 1, -1, 5, math.MinInt64, math.MaxInt64),
	}
	if !mayBe(o) {
		t.Fatalf("%+v may not be", o)
	}
	return o
}

// longest is the most that one waits.
func longest(o api.Opts) int64 {
	if o.Most != 0 {
		return o.Most
	}
	return 1048576
}

// model are the waits behind so many attempts, each one reckoned with numbers of any size.
func model(o api.Opts, many int) []int64 {
	most := big.NewInt(longest(o))
	wait := big.NewInt(o.First)
	var l []int64
	for range many {
		if wait.Cmp(most) > 0 {
			wait.Set(most)
		}
		l = append(l, wait.Int64())
		wait.Mul(wait, big.NewInt(o.Num)).Div(wait, big.NewInt(o.Den))
	}
	return l
}

// sum is the sum of numbers, of any size.
func sum(l ...int64) *big.Int {
	all := new(big.Int)
	for _, n := range l {
		all.Add(all, big.NewInt(n))
	}
	return all
}

func checkWait(t *testing.T, o api.Opts, attempt int, want int64) {
	t.Helper()
	if got := timing.Wait(o, attempt); got != want {
		t.Errorf("Wait(%+v, %d): %d, want %d", o, attempt, got, want)
	}
}

func checkAgain(t *testing.T, o api.Opts, attempt int, code, from, now, want int64, is bool) {
	t.Helper()
	if at, ok := timing.Again(o, attempt, code, from, now); at != want || ok != is {
		t.Errorf("Again(%+v, %d, %d, %d, %d): %d %t, want %d %t", o, attempt, code, from, now, at, ok, want, is)
	}
}

func checkEnds(t *testing.T, from, wait, want int64, is bool) {
	t.Helper()
	if at, ok := timing.Ends(from, wait); at != want || ok != is {
		t.Errorf("Ends(%d, %d): %d %t, want %d %t", from, wait, at, ok, want, is)
	}
}

func checkLeast(t *testing.T, want int64, l ...int64) {
	t.Helper()
	if got := timing.Least(l...); got != want {
		t.Errorf("Least(%d): %d, want %d", l, got, want)
	}
}

func checkBound(t *testing.T, o api.Opts, want int64, is bool) {
	t.Helper()
	if n, ok := timing.Bound(o); n != want || ok != is {
		t.Errorf("Bound(%+v): %d %t, want %d %t", o, n, ok, want, is)
	}
}

// P17.1
func TestWait(t *testing.T) {
	for _, c := range []struct {
		first, num, den, most int64
		waits                 []int64
	}{
		{10, 3, 2, 40, []int64{10, 15, 22, 33, 40, 40, 40}}, // cut at each attempt, not at the end alone
		{10, 3, 2, 33, []int64{10, 15, 22, 33, 33}},         // just the CAP
		{10, 3, 2, 9, []int64{9, 9, 9}},                     // the CAP from the first one on
		{10, 3, 2, 10, []int64{10, 10, 10}},
		{10, 3, 2, 1, []int64{1, 1}},
		{0, 1000, 1, 40, []int64{0, 0, 0}},
		{0, 1000, 1, 0, []int64{0, 0, 0}},
		{1, 3, 2, 40, []int64{1, 1, 1, 1, 1}}, // 1.5 is 1: it stands still, below the CAP
		{2, 3, 2, 40, []int64{2, 3, 4, 6, 9, 13, 19, 28, 40}},
		{5, 1, 1, 0, []int64{5, 5, 5}},
		{5, 1000, 1000, 0, []int64{5, 5, 5}},
		{999, 1000, 999, 0, []int64{999, 1000, 1001, 1002, 1003}},
		{998, 1000, 999, 0, []int64{998, 998, 998}},
		{1, 1000, 1, 0, []int64{1, 1000, 1000000, 1 << 20, 1 << 20}}, // no Most: MaxWait
		{1, 2, 1, 0, []int64{1, 2, 4, 8, 16, 32, 64, 128, 256, 512, 1024, 2048, 4096, 8192, 16384, 32768, 65536, 131072, 262144, 524288, 1048576, 1048576}},
		{1 << 20, 1000, 1, 0, []int64{1 << 20, 1 << 20}},
		{1<<20 - 1, 1000, 1, 1<<20 - 1, []int64{1<<20 - 1, 1<<20 - 1}},
		{1<<20 - 1, 1000, 1, 1 << 20, []int64{1<<20 - 1, 1 << 20, 1 << 20}},
	} {
		o := api.Opts{First: c.first, Num: c.num, Den: c.den, Most: c.most}
		for i, want := range c.waits {
			checkWait(t, o, i+1, want)
		}
	}
}

// P17.1
func TestWaitBehindAttemptsBelowOne(t *testing.T) {
	for _, attempt := range []int{0, -1, -2, -1 << 31, math.MinInt + 1, math.MinInt} {
		checkWait(t, example(), attempt, 10)
		checkWait(t, api.Opts{First: 7, Num: 1000, Den: 1, Most: 3}, attempt, 3)
	}
}

// P17.1: far behind the CAP, and where it stands still below it.
func TestWaitBehindManyAttempts(t *testing.T) {
	for _, attempt := range []int{100, 1000, 1001, 1 << 20, 1 << 31, 1 << 40, math.MaxInt - 1, math.MaxInt} {
		checkWait(t, example(), attempt, 40)
		checkWait(t, api.Opts{First: 1, Num: 3, Den: 2, Most: 40}, attempt, 1)
		checkWait(t, api.Opts{First: 0, Num: 2, Den: 1}, attempt, 0)
		checkWait(t, api.Opts{First: 5, Num: 7, Den: 7}, attempt, 5)
		checkWait(t, api.Opts{First: 1, Num: 2, Den: 1}, attempt, 1<<20)
	}
}

// P17.1: the longest way to the CAP.
func TestWaitRisesSlowly(t *testing.T) {
	o := api.Opts{First: 999, Num: 1000, Den: 999}
	l := model(o, 9000)
	if l[6000] == 1<<20 || l[8999] != 1<<20 {
		t.Fatalf("%d, then %d", l[6000], l[8999])
	}
	for i := range l {
		checkWait(t, o, i+1, l[i])
	}
}

// P17.1, and P17.6: any options.
func TestWaitOfAny(t *testing.T) {
	r := rand.New(rand.NewSource(1))
	for range 3000 {
		o := opts(t, r)
		l := model(o, 40)
		for i, want := range l {
			checkWait(t, o, i+1, want)
		}
		checkWait(t, o, -r.Intn(9), l[0])
		many := 1 + r.Intn(2000)
		checkWait(t, o, many, model(o, many)[many-1])
	}
}

// P17.1: nothing but First, Num, Den and Most is asked.
func TestWaitAsksNothingElse(t *testing.T) {
	o := example()
	o.Queue, o.Start, o.Close, o.Total, o.Beat, o.Tries, o.Never = 7, 1, 2, 3, 4, 1, 5
	for attempt := range 9 {
		checkWait(t, o, attempt, timing.Wait(example(), attempt))
	}
}

// P17.2
func TestAgain(t *testing.T) {
	for i, wait := range []int64{10, 10, 15, 22, 33, 40, 40} {
		checkAgain(t, example(), i, 9, 0, 100, 100+wait, true)
		checkAgain(t, example(), i, 0, 100, 0, wait, true)
		checkAgain(t, example(), i, -9, 0, maxTime, maxTime+wait, true)
	}
	checkAgain(t, example(), math.MinInt, 0, 0, 100, 110, true)
	checkAgain(t, example(), math.MaxInt, 0, 0, 100, 140, true)
	checkAgain(t, api.Opts{Num: 1, Den: 1}, 1, 0, 0, 0, 0, true) // at once, and at 0: true even so
}

// P17.2
func TestAgainNever(t *testing.T) {
	for _, never := range []int64{1, 9, -1, -5, math.MinInt64, math.MaxInt64} {
		o := example()
		o.Never = never
		checkAgain(t, o, 1, never, 0, 100, 0, false)
		for _, code := range []int64{0, never - 1, never + 1, never ^ 6} {
			checkAgain(t, o, 1, code, 0, 100, 110, true)
		}
	}
	checkAgain(t, example(), 1, 0, 0, 100, 110, true) // a Never of 0 is none
}

// P17.2
func TestAgainTries(t *testing.T) {
	for _, tries := range []int{1, 2, 3, 4, 999, 1000} {
		o := example()
		o.Tries = tries
		for _, attempt := range []int{tries, tries + 1, tries + 1000, math.MaxInt} {
			checkAgain(t, o, attempt, 0, 0, 100, 0, false)
		}
		for _, attempt := range []int{tries - 1, tries - 2, 0, -1, math.MinInt} {
			checkAgain(t, o, attempt, 0, 0, 100, 100+timing.Wait(o, attempt), true)
		}
	}
}

// P17.2
func TestAgainTotal(t *testing.T) {
	o := example()
	o.Total = 20
	checkAgain(t, o, 1, 0, 91, 100, 110, true)
	checkAgain(t, o, 1, 0, 90, 100, 0, false) // just at its end
	checkAgain(t, o, 1, 0, 89, 100, 0, false)
	checkAgain(t, o, 1, 0, 100, 100, 110, true)
	checkAgain(t, o, 2, 0, 100, 100, 115, true)
	checkAgain(t, o, 3, 0, 100, 100, 0, false) // the wait behind that attempt
	checkAgain(t, o, 3, 0, 103, 100, 122, true)
	checkAgain(t, o, 1, 0, maxTime, maxTime, maxTime+10, true)
	checkAgain(t, o, 1, 0, maxTime-10, maxTime, 0, false)
	checkAgain(t, o, 1, 0, 0, maxTime, 0, false)
	checkAgain(t, o, 1, 0, maxTime, 0, 10, true)
	o.Total = 1
	checkAgain(t, o, 1, 0, 100, 100, 0, false)
	checkAgain(t, api.Opts{Num: 1, Den: 1, Total: 1}, 1, 0, 100, 100, 100, true)
	o.Total = 0
	checkAgain(t, o, 1, 0, 0, maxTime, maxTime+10, true) // a Total of 0 is none
}

// again is when it is tried again, from the wait behind that attempt.
func again(o api.Opts, attempt int, wait, code, from, now int64) (int64, bool) {
	at := sum(now, wait)
	if o.Never != 0 && code == o.Never || o.Tries != 0 && attempt >= o.Tries {
		return 0, false
	}
	if o.Total != 0 && at.Cmp(sum(from, o.Total)) >= 0 {
		return 0, false
	}
	return at.Int64(), true
}

// P17.2, and P17.6: any options, at any times.
func TestAgainOfAny(t *testing.T) {
	r := rand.New(rand.NewSource(2))
	yes := 0
	for range 20000 {
		o := opts(t, r)
		attempt := 1 + r.Intn(60)
		wait := model(o, attempt)[attempt-1]
		now := one(r, 0, 1, 100, maxTime, r.Int63n(maxTime+1))
		from := one(r, now, max(0, now-r.Int63n(100)), max(0, now+wait-o.Total), min(maxTime, max(0, now+wait-o.Total+1)), r.Int63n(maxTime+1))
		code := one(r, 0, 1, -1, o.Never, r.Int63())
		want, is := again(o, attempt, wait, code, from, now)
		checkAgain(t, o, attempt, code, from, now, want, is)
		if at, ok := timing.Again(o, attempt, code, from, now); ok {
			yes++
			if at < now || o.Total != 0 && at >= from+o.Total {
				t.Errorf("Again(%+v, %d, %d, %d, %d): %d", o, attempt, code, from, now, at)
			}
		}
	}
	if yes < 2000 || yes > 18000 {
		t.Errorf("%d of 20000 are tried again", yes)
	}
}

// P17.3
func TestEnds(t *testing.T) {
	for _, from := range []int64{0, 1, 7, 1 << 20, 1 << 40, maxTime} {
		for _, wait := range []int64{1, 2, 3, 1 << 20, maxTime} {
			checkEnds(t, from, wait, from+wait, true)
		}
		for _, wait := range []int64{0, -1, -from, -from - 1, -1 << 20, math.MinInt64 + 1, math.MinInt64} {
			checkEnds(t, from, wait, 0, false)
		}
	}
	checkEnds(t, 7, 3, 10, true)
	checkEnds(t, 0, math.MaxInt64, math.MaxInt64, true)
	checkEnds(t, 1, math.MaxInt64-1, math.MaxInt64, true)
}

// P17.4
func TestLeast(t *testing.T) {
	checkLeast(t, 0)
	checkLeast(t, 0, nil...)
	checkLeast(t, 5, 0, 7, 5)
	for _, n := range []int64{0, -1, -7, math.MinInt64} {
		checkLeast(t, 0, n)
		checkLeast(t, 0, n, n, 0)
		checkLeast(t, 7, n, 7)
		checkLeast(t, 7, 7, n)
		checkLeast(t, 7, 9, n, 7, n)
	}
	for _, n := range []int64{1, 2, maxTime, math.MaxInt64} {
		checkLeast(t, n, n)
		checkLeast(t, n, n, n)
		checkLeast(t, 1, n, 1)
		checkLeast(t, 1, 1, n)
		checkLeast(t, n, 0, n, math.MaxInt64)
	}
}

// P17.4: any numbers, in any order; what is handed in stays as it was (R3).
func TestLeastOfAny(t *testing.T) {
	r := rand.New(rand.NewSource(3))
	for range 5000 {
		var l, above []int64
		for range r.Intn(8) {
			n := one(r, 0, 1, -1, int64(r.Intn(20)-10), r.Int63n(maxTime), -r.Int63(), math.MaxInt64, math.MinInt64)
			l = append(l, n)
			if n > 0 {
				above = append(above, n)
			}
		}
		want := int64(0)
		if len(above) > 0 {
			want = slices.Min(above)
		}
		was := slices.Clone(l)
		checkLeast(t, want, l...)
		if !slices.Equal(l, was) {
			t.Fatalf("%d became %d", was, l)
		}
	}
}

// P17.5
func TestBound(t *testing.T) {
	o := api.Opts{Start: 1, Close: 2, First: 10, Num: 2, Den: 1, Tries: 3}
	checkBound(t, o, 39, true)
	for tries, want := range []int64{0, 3, 16, 39, 82, 165} {
		o.Tries = tries
		checkBound(t, o, want, tries > 0)
	}
	o.Most, o.Tries = 15, 5
	checkBound(t, o, 5*3+10+15+15+15, true)
	checkBound(t, api.Opts{Start: 1, Close: 1, Num: 1, Den: 1, Tries: 1000}, 2000, true)
	checkBound(t, api.Opts{Start: 1, Close: 1, First: 1, Num: 3, Den: 2, Tries: 1000}, 2000+999, true)
	checkBound(t, api.Opts{Start: 1 << 20, Close: 1 << 20, First: 1 << 20, Num: 1000, Den: 1, Tries: 1000}, 2999<<20, true)
}

// P17.5
func TestBoundIsNone(t *testing.T) {
	whole := api.Opts{Start: 1, Close: 2, First: 10, Num: 2, Den: 1, Tries: 3}
	for part := 1; part < 8; part++ { // each of the three that isn't there, and several
		o := whole
		if part&1 != 0 {
			o.Start = 0
		}
		if part&2 != 0 {
			o.Close = 0
		}
		if part&4 != 0 {
			o.Tries = 0
		}
		checkBound(t, o, 0, false)
		for _, total := range []int64{1, 5, 1 << 20} {
			o.Total = total
			checkBound(t, o, total, true)
		}
	}
}

// P17.5: the Total goes ahead, be it longer or shorter.
func TestBoundTotal(t *testing.T) {
	for _, total := range []int64{1, 38, 39, 40, 1 << 20} {
		checkBound(t, api.Opts{Start: 1, Close: 2, Total: total, First: 10, Num: 2, Den: 1, Tries: 3}, total, true)
	}
}

// P17.5: any options.
func TestBoundOfAny(t *testing.T) {
	r := rand.New(rand.NewSource(4))
	for range 3000 {
		o := opts(t, r)
		o.Total = one(r, 0, 0, 0, o.Total)
		switch {
		case o.Total != 0:
			checkBound(t, o, o.Total, true)
		case o.Start == 0 || o.Close == 0 || o.Tries == 0:
			checkBound(t, o, 0, false)
		default:
			all := new(big.Int).Mul(big.NewInt(int64(o.Tries)), sum(o.Start, o.Close))
			all.Add(all, sum(model(o, o.Tries-1)...))
			checkBound(t, o, all.Int64(), true)
		}
	}
}

// P17.6: waits do not fall, none is above the CAP, and there they stay.
func TestWaitsRise(t *testing.T) {
	r := rand.New(rand.NewSource(5))
	for range 2000 {
		o := opts(t, r)
		most, ahead := longest(o), int64(0)
		for attempt := range 60 {
			wait := timing.Wait(o, attempt)
			if wait < ahead || wait > most {
				t.Fatalf("Wait(%+v, %d): %d behind %d, and the CAP is %d", o, attempt, wait, ahead, most)
			}
			ahead = wait
		}
		for _, attempt := range []int{10000, 1 << 40, math.MaxInt} {
			wait := timing.Wait(o, attempt)
			if wait < ahead || wait > most || ahead == most && wait != most {
				t.Fatalf("Wait(%+v, %d): %d behind %d, and the CAP is %d", o, attempt, wait, ahead, most)
			}
		}
	}
}

// P17.6: an activity whose attempts all come to nothing is never tried at its Total or later, and takes at most what Bound says.
func TestTriesEnd(t *testing.T) {
	r := rand.New(rand.NewSource(6))
	for range 2000 {
		o := opts(t, r)
		o.Tries = 1 + r.Intn(30)
		o.Start, o.Close = max(o.Start, 1), max(o.Close, 1)
		from := r.Int63n(1 << 40)
		bound, is := timing.Bound(o)
		if !is {
			t.Fatalf("Bound(%+v): none", o)
		}
		at, attempt := from, 1
		for {
			now := at + o.Start + o.Close
			next, is := timing.Again(o, attempt, 0, from, now)
			if !is {
				break
			}
			if attempt >= o.Tries || next < now || o.Total != 0 && next >= from+o.Total || next+o.Start+o.Close > from+bound && o.Total == 0 {
				t.Fatalf("%+v from %d: the attempt %d comes to nothing at %d, and again at %d", o, from, attempt, now, next)
			}
			at, attempt = next, attempt+1
		}
		if end := at + o.Start + o.Close; o.Total == 0 && (attempt != o.Tries || end != from+bound) {
			t.Fatalf("%+v from %d: %d attempts, till %d", o, from, attempt, end)
		}
	}
}

// inTime fails if what is done isn't over soon.
func inTime(t *testing.T, do func()) {
	t.Helper()
	over := make(chan struct{})
	go func() {
		defer close(over)
		do()
	}()
	select {
	case <-over:
	case <-time.After(time.Minute):
		t.Fatal("it takes for ever")
	}
}

// R1: of options that may not be, each call ends and none panics.
func TestOptsThatMayNotBe(t *testing.T) {
	r := rand.New(rand.NewSource(7))
	numbers := []int64{math.MinInt64, math.MinInt64 + 1, -1 << 31, -1 << 20, -1001, -2, -1, 0, 1, 2, 3, 999, 1000, 1001, 1 << 20, 1<<20 + 1, 1 << 31, 1 << 40, 1 << 62, math.MaxInt64 - 1, math.MaxInt64}
	n := func() int64 { return one(r, numbers...) }
	inTime(t, func() {
		for range 200000 {
			o := api.Opts{Queue: int(n()), Start: n(), Close: n(), Total: one(r, 0, n()), Beat: n(), First: n(), Num: n(), Den: n(), Most: n(), Tries: int(n()), Never: n()}
			attempt := int(n())
			timing.Wait(o, attempt)
			timing.Again(o, attempt, n(), n(), n())
			timing.Bound(o)
		}
	})
	inTime(t, func() {
		for _, first := range numbers {
			for _, num := range numbers {
				for _, den := range numbers {
					for _, most := range numbers {
						o := api.Opts{Start: 1, Close: 1, First: first, Num: num, Den: den, Most: most, Tries: math.MaxInt}
						timing.Wait(o, math.MaxInt)
						timing.Bound(o)
					}
				}
			}
		}
	})
	inTime(t, func() { // such as go round and come again and again to where they were
		for _, o := range []api.Opts{
			{First: 1, Num: 3 << 61, Den: 1 << 61},
			{First: 2, Num: -5 << 60, Den: 1 << 60},
			{First: 1 << 61, Num: 3, Den: 1, Most: math.MaxInt64},
			{First: 5, Num: -1, Den: 1}, {First: 5, Num: 1, Den: -1}, {First: -5, Num: 1, Den: -1, Most: 5},
		} {
			o.Start, o.Close, o.Tries = 1, 1, math.MaxInt
			timing.Wait(o, math.MaxInt)
			timing.Again(o, math.MaxInt-1, 0, 0, 0)
			timing.Bound(o)
		}
	})
	inTime(t, func() {
		for _, from := range numbers {
			for _, wait := range numbers {
				timing.Ends(from, wait)
			}
		}
	})
}

// R4: nothing is kept between calls.
func TestNothingIsKept(t *testing.T) {
	r := rand.New(rand.NewSource(8))
	for range 500 {
		a, b := opts(t, r), opts(t, r)
		attempt := r.Intn(50)
		wait := timing.Wait(a, attempt)
		bound, is := timing.Bound(a)
		timing.Wait(b, attempt+1)
		timing.Bound(b)
		checkWait(t, a, attempt, wait)
		checkBound(t, a, bound, is)
	}
}
