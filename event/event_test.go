package event_test

import (
	"math"
	"math/rand"
	"slices"
	"testing"

	"tapestry/api"
	"tapestry/event"
)

// valid: each kind as an event that may be, with numbers that differ where they may.
func valid() []api.Event {
	return []api.Event{
		{Id: 1, Kind: api.EvStarted, A: 7, B: -3, C: 9, D: 8, E: 6, F: 5},
		{Id: 2, Kind: api.EvTask, A: 1},
		{Id: 3, Kind: api.EvActivity, A: 7, B: -9},
		{Id: 4, Kind: api.EvTimer, A: 0},
		{Id: 5, Kind: api.EvChild, A: 7, B: -1},
		{Id: 6, Kind: api.EvUndoAct, A: 3},
		{Id: 7, Kind: api.EvUndoTimer, A: 4},
		{Id: 8, Kind: api.EvUndoChild, A: 5},
		{Id: 9, Kind: api.EvTell, A: 5, B: 7, C: -2},
		{Id: 10, Kind: api.EvAttr, A: 3, B: -4},
		{Id: 11, Kind: api.EvDraw, A: -5},
		{Id: 12, Kind: api.EvAccept, A: 1},
		{Id: 13, Kind: api.EvReject, A: 1, B: -7},
		{Id: 14, Kind: api.EvAnswer, A: 1, B: -7, C: 1},
		{Id: 15, Kind: api.EvCompleted, A: -1},
		{Id: 16, Kind: api.EvFailed, A: -1},
		{Id: 17, Kind: api.EvCanceled, A: -1},
		{Id: 18, Kind: api.EvAgain, A: -1, B: 1},
		{Id: 19, Kind: api.EvSignal, A: 7, B: -1, C: 0},
		{Id: 20, Kind: api.EvCancel, A: 0},
		{Id: 21, Kind: api.EvUpdate, A: 7, B: -1, C: 0},
		{Id: 22, Kind: api.EvDone, A: 3, B: -1, C: 1},
		{Id: 23, Kind: api.EvBroken, A: 3, B: -1, C: 1},
		{Id: 24, Kind: api.EvLate, A: 3, B: 4, C: 1},
		{Id: 25, Kind: api.EvFired, A: 4},
		{Id: 26, Kind: api.EvBorn, A: 5, B: 1},
		{Id: 27, Kind: api.EvUnborn, A: 5, B: -1},
		{Id: 28, Kind: api.EvChildEnd, A: 5, B: -1, C: 4},
		{Id: 29, Kind: api.EvTold, A: 9, B: -1},
		{Id: 30, Kind: api.EvStopped, A: -1},
		{Id: 256, Time: 1 << 40, Kind: api.EvTimedOut},
	}
}

// P14.1: how many numbers each kind has, which kinds are commands, which close a run; what is no kind.
func TestKinds(t *testing.T) {
	fields := []int{-1, 6, 1, 2, 1, 2, 1, 1, 1, 3, 2, 1, 1, 2, 3, 1, 1, 1, 2, 3, 1, 3, 3, 3, 3, 1, 2, 2, 3, 2, 1, 0, -1}
	closing := []int{15, 16, 17, 18, 30, 31}
	for kind, want := range fields {
		if got := event.Fields(kind); got != want {
			t.Errorf("Fields(%d): %d, want %d", kind, got, want)
		}
		if got := event.Command(kind); got != (kind >= 3 && kind <= 18) {
			t.Errorf("Command(%d): %v", kind, got)
		}
		if got := event.Closing(kind); got != slices.Contains(closing, kind) {
			t.Errorf("Closing(%d): %v", kind, got)
		}
	}
	for _, kind := range []int{-31, -3, -1, 33, 64, 256 + 3, 1<<32 + 3, 1<<32 + 15, math.MaxInt, math.MinInt, math.MinInt + 15} {
		if event.Fields(kind) != -1 || event.Command(kind) || event.Closing(kind) {
			t.Errorf("the kind %d: %d %v %v", kind, event.Fields(kind), event.Command(kind), event.Closing(kind))
		}
	}
}

// P14.2: one event of each kind; the least and the greatest Id and Time, and those beyond; kinds that are none.
func TestValidHead(t *testing.T) {
	for _, e := range valid() {
		if !event.Valid(e) {
			t.Errorf("%v may be", e)
		}
		for _, id := range []int{1, 2, 255, 256} {
			e.Id = id
			if !event.Valid(e) {
				t.Errorf("%v may be", e)
			}
		}
		for _, id := range []int{0, -1, 257, 258, 1 << 32, 1<<32 + 1, math.MaxInt, math.MinInt} {
			bad := e
			bad.Id = id
			if event.Valid(bad) {
				t.Errorf("%v may not be", bad)
			}
		}
		for _, time := range []int64{0, 1, 1<<40 - 1, 1 << 40} {
			e.Time = time
			if !event.Valid(e) {
				t.Errorf("%v may be", e)
			}
		}
		for _, time := range []int64{-1, 1<<40 + 1, 1 << 41, math.MaxInt64, math.MinInt64} {
			bad := e
			bad.Time = time
			if event.Valid(bad) {
				t.Errorf("%v may not be", bad)
			}
		}
	}
	for _, kind := range []int{0, 32, -1, 33, 1<<32 + 31, math.MaxInt, math.MinInt} {
		if e := (api.Event{Id: 1, Kind: kind}); event.Valid(e) {
			t.Errorf("%v may not be", e)
		}
		if e := (api.Event{Id: 1, Kind: kind, A: 1, B: 1, C: 1}); event.Valid(e) {
			t.Errorf("%v may not be", e)
		}
	}
	if event.Valid(api.Event{}) {
		t.Error("an event of noughts may not be")
	}
}

// P14.2: each number of each kind: the least and the greatest one that may be, and one beyond each; those that the kind hasn't are 0.
func TestValidNumbers(t *testing.T) {
	for _, e := range valid() {
		row := table()[e.Kind]
		for i := range letters(&e) {
			may := bound{0, 0}
			if i < len(row) {
				may = row[i]
			}
			check := func(n int64, want bool) {
				t.Helper()
				one := e
				*letters(&one)[i] = n
				if event.Valid(one) != want {
					t.Errorf("number %d of %v: Valid is %v", i, one, !want)
				}
			}
			check(may.least, true)
			check(may.most, true)
			check(may.least+(may.most-may.least)/2, true)
			if may.least > math.MinInt64 {
				check(may.least-1, false)
				check(math.MinInt64, false)
			}
			if may.most < math.MaxInt64 {
				check(may.most+1, false)
				check(math.MaxInt64, false)
				check(1<<32+may.least, false)
			}
		}
	}
}

// P14.2: any events, such as may be and such as are spoiled, held against the chapter's table.
func TestValidModel(t *testing.T) {
	r := rand.New(rand.NewSource(14))
	var told [2][32]int
	for range 200000 {
		e := anyEvent(r)
		for range r.Intn(3) {
			e = spoiled(r, e)
		}
		want := modelValid(e)
		if event.Valid(e) != want {
			t.Fatalf("Valid(%v): %v", e, !want)
		}
		if e.Kind >= 1 && e.Kind <= 31 {
			if want {
				told[1][e.Kind]++
			} else {
				told[0][e.Kind]++
			}
		}
	}
	for kind := 1; kind < 32; kind++ {
		if told[0][kind] < 100 || told[1][kind] < 100 {
			t.Errorf("the kind %d: only %d that may be and %d that may not", kind, told[1][kind], told[0][kind])
		}
	}
}

// place is what a range over Of tells: an event and its place.
type place struct {
	at int
	e  api.Event
}

// all are the places that Of tells.
func all(l []api.Event, kinds ...int) []place {
	var out []place
	for i, e := range event.Of(l, kinds...) {
		out = append(out, place{i, e})
	}
	return out
}

// P14.5: the events of some kinds, in order, with their places; without kinds all; kinds of which there is none, that are none, or are named twice.
func TestOf(t *testing.T) {
	l := []api.Event{{Id: 1, Kind: 1, B: 7}, {Id: 2, Kind: 2}, {Id: 3, Kind: 1, B: 9}, {Id: 4, Kind: 3}, {Id: 5, Kind: 99}, {Id: 6}, {Id: 7, Kind: -2}, {Id: 8, Kind: 2}}
	for _, c := range []struct {
		kinds  []int
		places []int
	}{
		{nil, []int{0, 1, 2, 3, 4, 5, 6, 7}},
		{[]int{}, []int{0, 1, 2, 3, 4, 5, 6, 7}},
		{[]int{1}, []int{0, 2}},
		{[]int{1, 3}, []int{0, 2, 3}},
		{[]int{3, 1}, []int{0, 2, 3}},
		{[]int{2, 2, 2}, []int{1, 7}},
		{[]int{4}, nil},
		{[]int{4, 31, 99}, []int{4}},
		{[]int{0}, []int{5}},
		{[]int{-2, 0, 77}, []int{5, 6}},
		{[]int{-1, math.MaxInt, math.MinInt}, nil},
		{[]int{1<<32 + 1, 257}, nil},
		{[]int{99, -2, 0, 3, 2, 1}, []int{0, 1, 2, 3, 4, 5, 6, 7}},
	} {
		var want []place
		for _, i := range c.places {
			want = append(want, place{i, l[i]})
		}
		if got := all(l, c.kinds...); !slices.Equal(got, want) {
			t.Errorf("Of %v: %v, want %v", c.kinds, got, want)
		}
	}
	if all(nil) != nil || all([]api.Event{}, 1) != nil {
		t.Error("of no events there is none")
	}
}

// P14.5: a range may be left at each place, and be gone through again.
func TestOfLeft(t *testing.T) {
	l := []api.Event{{Kind: 2}, {Kind: 1}, {Kind: 2}, {Kind: 2}, {Kind: 3}, {Kind: 2}}
	seq := event.Of(l, 2, 3)
	places := []int{0, 2, 3, 4, 5}
	for many := 1; many <= len(places); many++ {
		var got []int
		for i := range seq {
			if got = append(got, i); len(got) == many {
				break
			}
		}
		if !slices.Equal(got, places[:many]) {
			t.Errorf("left behind %d: %v", many, got)
		}
	}
	n := 0
	for range seq {
		for range seq {
			n++
		}
	}
	if n != len(places)*len(places) {
		t.Errorf("a range within a range: %d", n)
	}
}

// P14.5: the events are those that stand there when they are gone over; the kinds are those of the call.
func TestOfLater(t *testing.T) {
	l := []api.Event{{Id: 1, Kind: 1}, {Id: 2, Kind: 2}, {Id: 3, Kind: 3}}
	kinds := []int{2, 3}
	seq := event.Of(l, kinds...)
	l[0].Kind = 3
	l[1] = api.Event{Id: 9, Kind: 4}
	kinds[1] = 1
	var got []place
	for i, e := range seq {
		got = append(got, place{i, e})
	}
	want := []place{{0, api.Event{Id: 1, Kind: 3}}, {2, api.Event{Id: 3, Kind: 3}}}
	if !slices.Equal(got, want) {
		t.Errorf("behind a change: %v, want %v", got, want)
	}
	l[2].Kind = 2
	got = nil
	for i, e := range seq {
		got = append(got, place{i, e})
	}
	if want[1].e.Kind = 2; !slices.Equal(got, want) {
		t.Errorf("behind another change: %v, want %v", got, want)
	}
}

// P14.5: what is changed of an event that the range hasn't come to yet is seen.
func TestOfMeanwhile(t *testing.T) {
	l := []api.Event{{Id: 1, Kind: 2}, {Id: 2, Kind: 1}, {Id: 3, Kind: 2}}
	var got []place
	for i, e := range event.Of(l, 2) {
		got = append(got, place{i, e})
		l[i].Kind = 1
		if i+1 < len(l) {
			l[i+1].Kind = 2
		}
	}
	want := []place{{0, api.Event{Id: 1, Kind: 2}}, {1, api.Event{Id: 2, Kind: 2}}, {2, api.Event{Id: 3, Kind: 2}}}
	if !slices.Equal(got, want) {
		t.Errorf("%v, want %v", got, want)
	}
}

// P14.5: any lists and kinds, held against a plain look at each event; what is handed in is not changed, its spare room neither.
func TestOfModel(t *testing.T) {
	r := rand.New(rand.NewSource(145))
	for range 3000 {
		l := anyEvents(r, r.Intn(20))
		for i := range l {
			l[i].Kind = r.Intn(6)
		}
		kinds := make([]int, r.Intn(5), 8)
		for i := range kinds {
			kinds[i] = r.Intn(6)
		}
		var want []place
		for i, e := range l {
			if len(kinds) == 0 || slices.Contains(kinds, e.Kind) {
				want = append(want, place{i, e})
			}
		}
		list, room := slices.Clone(l), slices.Clone(kinds[:8])
		if got := all(l, kinds...); !slices.Equal(got, want) {
			t.Fatalf("Of(%v, %v): %v", l, kinds, got)
		}
		if !slices.Equal(l, list) || !slices.Equal(kinds[:8], room) {
			t.Fatal("what was handed in has changed")
		}
	}
}
