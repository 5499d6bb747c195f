package grammar_test

import (
	"math"
	"math/rand"
	"slices"

	"tapestry/api"
	"tapestry/event"
)

// row is one of the chapter's table: what an event of some kinds names, of which kinds one must name that ahead (0: none must), and of which none may.
type row struct {
	kinds []int
	names int
	must  int
	none  []int
}

// table is the chapter's.
func table() []row {
	return []row{
		{[]int{6, 22, 23, 24}, 3, 0, []int{6, 22, 23, 24}},
		{[]int{7, 25}, 4, 0, []int{7, 25}},
		{[]int{26, 27}, 5, 0, []int{26, 27}},
		{[]int{28}, 5, 26, []int{28}},
		{[]int{8}, 5, 0, []int{8, 27, 28}},
		{[]int{9}, 5, 0, nil},
		{[]int{29}, 9, 0, []int{29}},
		{[]int{12, 13}, 21, 0, []int{12, 13}},
		{[]int{14}, 21, 12, []int{14}},
	}
}

// rowOf is the table's row of a kind.
func rowOf(kind int) (row, bool) {
	for _, r := range table() {
		if slices.Contains(r.kinds, kind) {
			return r, true
		}
	}
	return row{}, false
}

// closes are the closing kinds.
func closes(kind int) bool { return slices.Contains([]int{15, 16, 17, 18, 30, 31}, kind) }

// command: is a kind a command?
func command(kind int) bool { return kind >= 3 && kind <= 18 }

// namedBy: does one of some kinds name the event of an Id?
func namedBy(l []api.Event, id int64, kinds ...int) bool {
	return slices.ContainsFunc(l, func(e api.Event) bool { return e.A == id && slices.Contains(kinds, e.Kind) })
}

// refused is which of the chapter's words doesn't let an event stand behind others, each by a number of its own; 0: it may stand there.
func refused(ahead []api.Event, e api.Event) int {
	n := len(ahead)
	if !event.Valid(e) {
		return 1
	}
	if e.Id != n+1 {
		return 2
	}
	if n == 0 {
		if e.Kind != 1 {
			return 3
		}
		return 0
	}
	last := ahead[n-1]
	if e.Time < last.Time {
		return 4
	}
	if e.Kind == 1 {
		return 5
	}
	if slices.ContainsFunc(ahead, func(x api.Event) bool { return closes(x.Kind) }) {
		return 6
	}
	if e.Kind == 2 && e.A != int64(n) {
		return 7
	}
	if command(e.Kind) && !(e.Kind == 16 && e.A == -4) {
		if last.Kind != 2 && !command(last.Kind) {
			return 8
		}
		if e.Time != last.Time {
			return 9
		}
	}
	r, ok := rowOf(e.Kind)
	if !ok {
		return 0
	}
	at := slices.IndexFunc(ahead, func(x api.Event) bool { return int64(x.Id) == e.A })
	if at < 0 {
		return 10
	}
	if ahead[at].Kind != r.names {
		return 11
	}
	if r.must != 0 && !namedBy(ahead, e.A, r.must) {
		return 12
	}
	if namedBy(ahead, e.A, r.none...) {
		return 13
	}
	if e.Kind == 25 && e.Time < ahead[at].A {
		return 14
	}
	return 0
}

// reasons is how many numbers refused has.
const reasons = 15

// modelCheck is Check by the chapter's words, and why the first event that may not stand there may not.
func modelCheck(h []api.Event) (api.Errno, int, int) {
	for i, e := range h {
		if why := refused(h[:i], e); why != 0 {
			return api.ErrHistory, i, why
		}
	}
	return api.OK, 0, 0
}

// modelOpen is Open of a history by the chapter's words.
func modelOpen(h []api.Event) []int {
	ends := map[int][]int{3: {6, 22, 23, 24}, 4: {7, 25}, 5: {27, 28}, 21: {13, 14}}
	var l []int
	for i, e := range h {
		if kinds := ends[e.Kind]; kinds != nil && !namedBy(h, int64(i+1), kinds...) {
			l = append(l, i)
		}
	}
	return l
}

// modelClose is Close of a history by the chapter's words.
func modelClose(h []api.Event) int {
	return slices.IndexFunc(h, func(e api.Event) bool { return closes(e.Kind) })
}

// pick is one of some numbers.
func pick(r *rand.Rand, l ...int64) int64 { return l[r.Intn(len(l))] }

// filled is an event of a kind with numbers that may be, but for what it names.
func filled(r *rand.Rand, kind int) api.Event {
	e := api.Event{Kind: kind}
	any := func() int64 { return pick(r, 0, 1, -1, -4, 7, math.MaxInt64, math.MinInt64) }
	up := func(least int64) int64 { return pick(r, least, least+1, math.MaxInt64) }
	switch kind {
	case 1:
		e.A, e.B, e.C, e.D, e.E, e.F = r.Int63n(8), any(), up(0), up(0), up(0), up(0)
	case 3, 5:
		e.A, e.B = r.Int63n(8), any()
	case 4:
		e.A = pick(r, 0, 1, 2, 3, 5, 9, math.MaxInt64)
	case 9:
		e.B, e.C = r.Int63n(8), any()
	case 10:
		e.A, e.B = r.Int63n(4), any()
	case 11, 15, 16, 17, 30:
		e.A = any()
	case 13, 27, 29:
		e.B = any()
	case 14:
		e.B, e.C = any(), r.Int63n(2)
	case 18:
		e.A, e.B = any(), up(1)
	case 19, 21:
		e.A, e.B, e.C = r.Int63n(8), any(), up(0)
	case 20:
		e.A = up(0)
	case 22, 23:
		e.B, e.C = any(), up(1)
	case 24:
		e.B, e.C = 1+r.Int63n(4), up(1)
	case 26:
		e.B = up(1)
	case 28:
		e.B, e.C = any(), r.Int63n(5)
	}
	return e
}

// candidate is an event that may perhaps stand behind others.
func candidate(r *rand.Rand, ahead []api.Event) api.Event {
	kinds := []int{2, 2, 2, 3, 3, 4, 4, 5, 5, 6, 7, 8, 9, 9, 10, 11, 12, 13, 14, 19, 20, 21, 21, 22, 23, 24, 25, 26, 26, 27, 28, 29}
	kind := kinds[r.Intn(len(kinds))]
	if r.Intn(150) == 0 {
		kind = []int{15, 16, 16, 17, 18, 30, 31}[r.Intn(7)]
	}
	if len(ahead) == 0 {
		kind = 1
	}
	e := filled(r, kind)
	e.Id = len(ahead) + 1
	if len(ahead) > 0 {
		last := ahead[len(ahead)-1]
		e.Time = last.Time
		if !command(kind) && r.Intn(3) == 0 {
			e.Time += r.Int63n(3)
		}
	}
	if kind == 2 {
		e.A = int64(len(ahead))
	}
	if x, ok := rowOf(kind); ok {
		var ids []int64
		for _, a := range ahead {
			if a.Kind == x.names {
				ids = append(ids, int64(a.Id))
			}
		}
		e.A = int64(1 + r.Intn(len(ahead)+1))
		if len(ids) > 0 {
			e.A = pick(r, ids...)
		}
	}
	return e
}

// anyHistory is a history of at most so many events.
func anyHistory(r *rand.Rand, most int) []api.Event {
	var h []api.Event
	for tries := 0; len(h) < most && tries < 8*most; tries++ {
		if e := candidate(r, h); refused(h, e) == 0 {
			h = append(h, e)
		}
	}
	return h
}

// numbered are events whose Ids are set in order, and with them the tasks' A.
func numbered(l []api.Event) []api.Event {
	for i := range l {
		l[i].Id = i + 1
		if l[i].Kind == 2 {
			l[i].A = int64(i)
		}
	}
	return l
}

// spoiled is a list in which one thing is another one, so that it may be no history.
func spoiled(r *rand.Rand, h []api.Event) []api.Event {
	l := slices.Clone(h)
	i := r.Intn(len(l) + 1)
	if i == len(l) {
		e := filled(r, 1+r.Intn(31))
		e.Id, e.Time, e.A = i+1, l[i-1].Time, pick(r, e.A, int64(1+r.Intn(i)))
		return append(l, e)
	}
	switch r.Intn(9) {
	case 0:
		l[i].Id += int(pick(r, -1, 1, -256, 1<<32))
	case 1:
		l[i].Time += pick(r, -1, 1, -2, 2, 1<<40)
	case 2:
		l[i].Kind = r.Intn(33)
	case 3:
		l[i].A = pick(r, -4, -1, 0, l[i].A+1, l[i].A-1, l[i].A+1<<32, int64(1+r.Intn(len(l))), math.MaxInt64)
	case 4:
		*[]*int64{&l[i].B, &l[i].C, &l[i].D, &l[i].E, &l[i].F}[r.Intn(5)] += pick(r, -1, 1, 8)
	case 5:
		l = numbered(slices.Delete(l, i, i+1))
	case 6:
		l = numbered(slices.Insert(l, i, l[r.Intn(len(l))]))
	case 7:
		k := r.Intn(len(l))
		l[i], l[k] = l[k], l[i]
		numbered(l)
	case 8:
		l[i] = filled(r, 1+r.Intn(31))
		l[i].Id, l[i].Time = i+1, h[i].Time
		if x, ok := rowOf(l[i].Kind); ok {
			l[i].A = int64(1 + r.Intn(len(l)))
			if at := slices.IndexFunc(l, func(e api.Event) bool { return e.Kind == x.names }); at >= 0 {
				l[i].A = int64(at + 1)
			}
		}
	}
	return l
}
