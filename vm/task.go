package vm

import (
	"slices"

	"tapestry/api"
	"tapestry/code"
	"tapestry/codec"
	"tapestry/event"
)

// task is one that is under way.
type task struct {
	m    *Machine
	fuel int                // how many instructions may still be done
	draw func(id int) int64 // the value of the draw whose event has an Id
	made []api.Event
}

// drawn are the values of a task's draws, one behind the other.
func drawn(draw int64) func(int) int64 {
	word := uint64(draw)
	return func(int) int64 {
		value := codec.Mix(word)
		word++
		return int64(value)
	}
}

// task does one, at a time: the events that it makes.
func (m *Machine) task(now int64, draw func(id int) int64) []api.Event {
	k := task{m: m, fuel: api.Fuel, draw: draw}
	asked, updates := m.asked, m.updates
	m.asked, m.updates = false, nil
	m.is.Now = now
	k.put(api.Event{Kind: api.EvTask, A: int64(m.seen)})
	if asked {
		k.cancel(0)
	}
	for _, u := range updates {
		if !m.is.Over {
			k.update(u)
		}
	}
	for k.pass() {
	}
	return k.made
}

// put makes an event.
func (k *task) put(e api.Event) {
	k.m.seen++
	e.Id, e.Time = k.m.seen, k.m.is.Now
	k.made = append(k.made, e)
	if event.Closing(e.Kind) {
		k.m.close()
	}
}

// command makes a command; false: there is no room for it, and the machine has failed in its place.
func (k *task) command(e api.Event) bool {
	if !event.Closing(e.Kind) && k.m.seen+1 >= api.MaxEvents {
		k.fail(api.CodeFull)
		return false
	}
	k.put(e)
	return true
}

// fail closes the machine with a code.
func (k *task) fail(why int64) { k.put(api.Event{Kind: api.EvFailed, A: why}) }

// cancel cancels a scope, and undoes what is under way in it.
func (k *task) cancel(scope int) {
	m := k.m
	// In one that was cancelled before nothing is alive, so that nothing is undone twice.
	alive := m.alive()
	m.is.Scopes[scope].Cancelled = true
	for _, f := range alive {
		if m.cancelled(m.is.Futures[f].Scope) && !m.is.Over {
			k.undo(f)
		}
	}
}

// undo makes known that nobody needs any more what a future stands for.
func (k *task) undo(f int) {
	future := k.m.is.Futures[f]
	e := api.Event{A: int64(future.Event)}
	switch future.Kind {
	case api.EvActivity:
		e.Kind = api.EvUndoAct
	case api.EvTimer:
		e.Kind = api.EvUndoTimer
	case api.EvChild:
		// A child is told to cancel itself: how it ends, it says.
		k.command(api.Event{Kind: api.EvUndoChild, A: e.A})
		return
	default:
		return
	}
	if k.command(e) {
		k.m.settle(f, 0, api.EndCanceled)
	}
}

// update rejects an update, or accepts it and begins a thread for it.
func (k *task) update(u api.Event) {
	name := int(u.A)
	fn := code.Find(k.m.program, api.FnUpdate, name)
	if fn < 0 {
		k.reject(u, int64(api.ErrAsk))
		return
	}
	if check := code.Find(k.m.program, api.FnCheck, name); check >= 0 && !k.passes(check, u) {
		return
	}
	if len(k.m.is.Threads) >= api.MaxThreads {
		k.fail(api.CodeMany)
		return
	}
	if k.command(api.Event{Kind: api.EvAccept, A: int64(u.Id)}) {
		k.m.begin(api.Thread{Func: fn, Arg: u.B, Future: -1, Update: u.Id})
	}
}

// passes: does a check let an update pass? If not, it has been rejected, or the machine has failed.
func (k *task) passes(check int, u api.Event) bool {
	how, value := k.purely(check, u.B)
	switch {
	case how == spent:
		k.fail(api.CodeFuel)
	case how == faults:
		k.reject(u, api.CodeFault)
	case how == fails || value != 0:
		k.reject(u, value)
	default:
		return true
	}
	return false
}

// reject rejects an update with a code.
func (k *task) reject(u api.Event, why int64) {
	k.command(api.Event{Kind: api.EvReject, A: int64(u.Id), B: why})
}

// pass lets each thread go on that can: did one?
func (k *task) pass() bool {
	is := &k.m.is
	at, wentOn := 0, false
threads:
	for at < len(is.Threads) {
		t := is.Threads[at]
		if !k.m.canGoOn(t) {
			at++
			continue
		}
		wentOn = true
		t.Waits, t.Signal = -1, -1
		for {
			switch how, value := k.step(&t); how {
			case waits, yields:
				is.Threads[at] = t
				at++
				continue threads
			case returns, fails:
				is.Threads = slices.Delete(is.Threads, at, at+1)
				k.end(t, how, value)
				continue threads
			case faults:
				k.fail(api.CodeFault)
				break threads
			case spent:
				k.fail(api.CodeFuel)
				break threads
			case closes:
				break threads
			}
		}
	}
	return wentOn
}

// end tells what a thread that has ended has come to.
func (k *task) end(t api.Thread, how course, value int64) {
	status := api.EndOK
	if how == fails {
		status = api.EndFailed
	}
	switch {
	case t.Future >= 0:
		k.m.settle(t.Future, value, status)
	case t.Update != 0:
		k.command(api.Event{Kind: api.EvAnswer, A: int64(t.Update), B: value, C: int64(status)})
	case how == returns:
		k.command(api.Event{Kind: api.EvCompleted, A: value})
	case k.m.cancelled(0):
		k.command(api.Event{Kind: api.EvCanceled, A: value})
	default:
		k.fail(value)
	}
}
