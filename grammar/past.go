package grammar

import "tapestry/api"

// naming is that an event of a kind names another one, by its Id.
type naming struct {
	kind int
	id   int64
}

// past is what events were gone through: a history, and how often what was named in it.
type past struct {
	events []api.Event
	named  map[naming]int
}

// read goes through events as long as each may stand where it does.
func read(h []api.Event) past {
	p := past{named: map[naming]int{}}
	for i, e := range h {
		if !p.mayStand(e) {
			break
		}
		p.events = h[:i+1]
		if about(e.Kind) != 0 {
			p.named[naming{e.Kind, e.A}]++
		}
	}
	return p
}

// about is the kind of the event that one of a kind names by its A; 0: it names none.
func about(kind int) int {
	switch kind {
	case api.EvUndoAct, api.EvDone, api.EvBroken, api.EvLate:
		return api.EvActivity
	case api.EvUndoTimer, api.EvFired:
		return api.EvTimer
	case api.EvUndoChild, api.EvTell, api.EvBorn, api.EvUnborn, api.EvChildEnd:
		return api.EvChild
	case api.EvTold:
		return api.EvTell
	case api.EvAccept, api.EvReject, api.EvAnswer:
		return api.EvUpdate
	}
	return 0
}

// has: did an event of a kind name the one of an Id?
func (p past) has(id int64, kind int) bool { return p.named[naming{kind, id}] > 0 }

// free: did no event of some kinds name the one of an Id?
func (p past) free(id int64, kinds ...int) bool {
	for _, kind := range kinds {
		if p.has(id, kind) {
			return false
		}
	}
	return true
}

// awaits: is what an event began still awaited?
func (p past) awaits(e api.Event) bool {
	id := int64(e.Id)
	switch e.Kind {
	case api.EvActivity:
		return p.free(id, api.EvUndoAct, api.EvDone, api.EvBroken, api.EvLate)
	case api.EvTimer:
		return p.free(id, api.EvUndoTimer, api.EvFired)
	case api.EvChild:
		return p.free(id, api.EvUnborn, api.EvChildEnd)
	case api.EvUpdate:
		return p.free(id, api.EvReject, api.EvAnswer)
	}
	return false
}
