package grammar

import (
	"tapestry/api"
	"tapestry/event"
)

// closed: is the last event one that closes?
func (p past) closed() bool {
	return len(p.events) > 0 && event.Closing(p.events[len(p.events)-1].Kind)
}

// mayStand: may an event stand behind what was gone through?
func (p past) mayStand(e api.Event) bool {
	ahead := len(p.events)
	if !event.Valid(e) || e.Id != ahead+1 {
		return false
	}
	if ahead == 0 {
		return e.Kind == api.EvStarted
	}
	if e.Kind == api.EvStarted || e.Time < p.events[ahead-1].Time || p.closed() {
		return false
	}
	if e.Kind == api.EvTask {
		return e.A == int64(ahead)
	}
	return p.mayBeMade(e) && p.mayBeNamed(e)
}

// mayBeMade: is an event none that only a task makes, or one of the task that goes on there?
func (p past) mayBeMade(e api.Event) bool {
	full := e.Kind == api.EvFailed && e.A == api.CodeFull
	if full || !event.Command(e.Kind) {
		return true
	}
	last := p.events[len(p.events)-1]
	return e.Time == last.Time && (last.Kind == api.EvTask || event.Command(last.Kind))
}

// mayBeNamed: does an event name none, or one ahead that it may name?
func (p past) mayBeNamed(e api.Event) bool {
	kind := about(e.Kind)
	if kind == 0 {
		return true
	}
	// That A is at least 1 is asked of such an event for it to be Valid.
	if e.A > int64(len(p.events)) {
		return false
	}
	named := p.events[e.A-1]
	return named.Kind == kind && p.mayName(e, named)
}

// mayName: may an event name one, after all that has named that so far?
func (p past) mayName(e, named api.Event) bool {
	switch e.Kind {
	case api.EvUndoAct, api.EvDone, api.EvBroken, api.EvLate, api.EvUndoTimer:
		return p.awaits(named)
	case api.EvFired:
		return p.awaits(named) && e.Time >= named.A
	case api.EvUndoChild:
		return p.awaits(named) && p.free(e.A, api.EvUndoChild)
	case api.EvBorn, api.EvUnborn:
		return p.free(e.A, api.EvBorn, api.EvUnborn)
	case api.EvChildEnd:
		return p.has(e.A, api.EvBorn) && p.free(e.A, api.EvChildEnd)
	case api.EvTold:
		return p.free(e.A, api.EvTold)
	case api.EvAccept, api.EvReject:
		return p.free(e.A, api.EvAccept, api.EvReject)
	case api.EvAnswer:
		return p.has(e.A, api.EvAccept) && p.free(e.A, api.EvAnswer)
	}
	return true
}
