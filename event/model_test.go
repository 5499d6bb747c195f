package event_test

import (
	"encoding/binary"
	"math"
	"math/rand"

	"tapestry/api"
	"tapestry/codec"
)

// bound is what one of an event's numbers may be: from least to most.
type bound struct{ least, most int64 }

// up is a number from least on.
func up(least int64) bound { return bound{least, math.MaxInt64} }

// free is any number.
func free() bound { return bound{math.MinInt64, math.MaxInt64} }

// table is the chapter's: of each kind what its numbers may be.
func table() [32][]bound {
	one, nought, seven, all := up(1), up(0), bound{0, 7}, free()
	return [32][]bound{
		1:  {seven, all, nought, nought, nought, nought},
		2:  {one},
		3:  {seven, all},
		4:  {nought},
		5:  {seven, all},
		6:  {one},
		7:  {one},
		8:  {one},
		9:  {one, seven, all},
		10: {{0, 3}, all},
		11: {all},
		12: {one},
		13: {one, all},
		14: {one, all, {0, 1}},
		15: {all},
		16: {all},
		17: {all},
		18: {all, one},
		19: {seven, all, nought},
		20: {nought},
		21: {seven, all, nought},
		22: {one, all, one},
		23: {one, all, one},
		24: {one, {1, 4}, one},
		25: {one},
		26: {one, one},
		27: {one, all},
		28: {one, all, {0, 4}},
		29: {one, all},
		30: {all},
		31: {},
	}
}

// letters are where the numbers of an event stand.
func letters(e *api.Event) []*int64 { return []*int64{&e.A, &e.B, &e.C, &e.D, &e.E, &e.F} }

// modelValid is Valid by the chapter's words.
func modelValid(e api.Event) bool {
	if e.Id < 1 || e.Id > 256 || e.Time < 0 || e.Time > 1<<40 || e.Kind < 1 || e.Kind > 31 {
		return false
	}
	row := table()[e.Kind]
	for i, n := range letters(&e) {
		may := bound{0, 0}
		if i < len(row) {
			may = row[i]
		}
		if *n < may.least || *n > may.most {
			return false
		}
	}
	return true
}

// raw are the bytes that an event would have, whether it may be or not: its first so many numbers.
func raw(id, time, kind uint64, numbers ...int64) string {
	b := binary.AppendUvarint(nil, id)
	b = binary.AppendUvarint(b, time)
	b = binary.AppendUvarint(b, kind)
	for _, n := range numbers {
		b = binary.AppendVarint(b, n)
	}
	return string(b)
}

// modelEncode is Encode by the chapter's words.
func modelEncode(e api.Event) (string, api.Errno) {
	if !modelValid(e) {
		return "", api.ErrEvent
	}
	var l []int64
	for i, n := range letters(&e) {
		if i < len(table()[e.Kind]) {
			l = append(l, *n)
		}
	}
	return raw(uint64(e.Id), uint64(e.Time), uint64(e.Kind), l...), api.OK
}

// modelDecode is Decode by the chapter's words.
func modelDecode(s string) (api.Event, int, api.Errno) {
	var e api.Event
	place := 0
	for i := range 3 {
		n, k, err := codec.TakeUint(s[place:])
		if err != api.OK {
			return api.Event{}, 0, err
		}
		if n > 1<<62 {
			return api.Event{}, 0, api.ErrEvent
		}
		place += k
		switch i {
		case 0:
			e.Id = int(n)
		case 1:
			e.Time = int64(n)
		case 2:
			e.Kind = int(n)
		}
	}
	if e.Kind < 1 || e.Kind > 31 {
		return api.Event{}, 0, api.ErrEvent
	}
	for i := range table()[e.Kind] {
		n, k, err := codec.TakeInt(s[place:])
		if err != api.OK {
			return api.Event{}, 0, err
		}
		place += k
		*letters(&e)[i] = n
	}
	if !modelValid(e) {
		return api.Event{}, 0, api.ErrEvent
	}
	return e, place, api.OK
}

// modelUnpack is Unpack by the chapter's words.
func modelUnpack(s string) ([]api.Event, api.Errno, int) {
	var l []api.Event
	place := 0
	for place < len(s) {
		e, k, err := modelDecode(s[place:])
		if err != api.OK {
			return nil, err, place
		}
		l = append(l, e)
		place += k
	}
	return l, api.OK, 0
}

// anyNumber is a number between bounds, often one of these.
func anyNumber(r *rand.Rand, may bound) int64 {
	switch r.Intn(5) {
	case 0:
		return may.least
	case 1:
		return may.most
	}
	if may.most-may.least >= 0 && may.most-may.least < 1<<20 {
		return may.least + r.Int63n(may.most-may.least+1)
	}
	n := int64(r.Uint64()) >> r.Intn(64)
	if n < may.least {
		n = -(n + 1)
	}
	return max(n, may.least)
}

// anyEvent is an event that may be.
func anyEvent(r *rand.Rand) api.Event {
	e := api.Event{Id: int(anyNumber(r, bound{1, 256})), Time: anyNumber(r, bound{0, 1 << 40}), Kind: 1 + r.Intn(31)}
	e.Time = min(e.Time, 1<<40)
	for i, may := range table()[e.Kind] {
		*letters(&e)[i] = anyNumber(r, may)
	}
	return e
}

// spoiled is an event in which one thing is another one, so that it may be one that may not be.
func spoiled(r *rand.Rand, e api.Event) api.Event {
	odd := []int64{-1, 0, 1, 2, 3, 4, 5, 7, 8, 31, 32, 256, 257, 1 << 40, 1<<40 + 1, math.MinInt64, math.MaxInt64, int64(r.Uint64())}
	n := odd[r.Intn(len(odd))]
	switch i := r.Intn(9); i {
	case 6:
		e.Id = int(n)
	case 7:
		e.Time = n
	case 8:
		e.Kind = int(n)
	default:
		*letters(&e)[i] = n
	}
	return e
}

// anyEvents are events that may be.
func anyEvents(r *rand.Rand, many int) []api.Event {
	var l []api.Event
	for range many {
		l = append(l, anyEvent(r))
	}
	return l
}
