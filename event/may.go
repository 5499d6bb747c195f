package event

import "tapestry/api"

// letters is how many numbers an event has room for: A to F.
const letters = 6

// numbers are where A to F of an event stand.
func numbers(e *api.Event) [letters]*int64 {
	return [...]*int64{&e.A, &e.B, &e.C, &e.D, &e.E, &e.F}
}

// within: is a number one of least to most?
func within(n, least, most int64) bool { return least <= n && n <= most }

// natural: is none of some numbers below 0?
func natural(l ...int64) bool {
	for _, n := range l {
		if n < 0 {
			return false
		}
	}
	return true
}

// restIsZero: are all those numbers of an event 0 that its kind hasn't?
func restIsZero(e api.Event) bool {
	all := numbers(&e)
	for _, n := range all[Fields(e.Kind):] {
		if *n != 0 {
			return false
		}
	}
	return true
}

// numbersMayBe: are those numbers of an event such as may be that its kind has?
func numbersMayBe(e api.Event) bool {
	switch e.Kind {
	case api.EvDraw, api.EvCompleted, api.EvFailed, api.EvCanceled, api.EvStopped, api.EvTimedOut:
		return true
	case api.EvActivity:
		return within(e.A, 0, api.MaxOpts-1)
	case api.EvAttr:
		return within(e.A, 0, api.MaxAttrs-1)
	case api.EvAgain:
		return e.B >= 1
	case api.EvStarted:
		if !natural(e.C, e.D, e.E, e.F) {
			return false
		}
		fallthrough
	case api.EvChild:
		return within(e.A, 0, api.MaxPrograms-1)
	case api.EvSignal, api.EvUpdate:
		return within(e.A, 0, api.MaxNames-1) && natural(e.C)
	case api.EvTimer, api.EvCancel:
		return natural(e.A)
	}
	// All others are about an event ahead, whose number is their A.
	return e.A >= 1 && wordsMayBe(e)
}

// wordsMayBe: may what an event says of the one that it is about be said, whichever that is?
func wordsMayBe(e api.Event) bool {
	switch e.Kind {
	case api.EvTell:
		return within(e.B, 0, api.MaxNames-1)
	case api.EvAnswer:
		return within(e.C, api.EndOK, api.EndFailed)
	case api.EvBorn:
		return e.B >= 1
	case api.EvChildEnd:
		return within(e.C, api.EndOK, api.EndStopped)
	case api.EvLate:
		if !within(e.B, api.LateStart, api.LateTotal) {
			return false
		}
		fallthrough
	case api.EvDone, api.EvBroken:
		return e.C >= 1
	}
	return true
}
