package vm

import (
	"slices"

	"tapestry/api"
)

// take does what becomes of it by an event from outside.
func (m *Machine) take(e api.Event) {
	m.seen++
	switch e.Kind {
	case api.EvStarted:
		m.begin(api.Thread{Arg: e.B, Future: -1})
	case api.EvSignal:
		m.is.Signals[e.A] = append(m.is.Signals[e.A], e.B)
	case api.EvCancel:
		m.asked = true
	case api.EvUpdate:
		m.updates = append(m.updates, e)
	case api.EvDone:
		m.bring(e.A, e.B, api.EndOK)
	case api.EvBroken, api.EvUnborn:
		m.bring(e.A, e.B, api.EndFailed)
	case api.EvLate:
		m.bring(e.A, e.B, api.EndLate)
	case api.EvFired:
		m.bring(e.A, 0, api.EndOK)
	case api.EvChildEnd:
		m.bring(e.A, e.B, int(e.C))
	case api.EvFailed, api.EvStopped, api.EvTimedOut:
		m.close()
	}
}

// begin makes a thread more, which waits for nothing.
func (m *Machine) begin(t api.Thread) {
	t.Waits, t.Signal = -1, -1
	m.is.Threads = append(m.is.Threads, t)
}

// bring makes the future of an event done, if there is one that isn't.
func (m *Machine) bring(id, value int64, status int) {
	for i, f := range m.is.Futures {
		if int64(f.Event) == id && !f.Done {
			m.settle(i, value, status)
		}
	}
}

// settle makes a future done.
func (m *Machine) settle(f int, value int64, status int) {
	future := &m.is.Futures[f]
	future.Done, future.Value, future.Status = true, value, status
}

// close makes it over: no thread goes on any more.
func (m *Machine) close() {
	m.is.Over = true
	m.is.Threads = nil
}

// canGoOn: is there what a thread waits for, if it waits?
func (m *Machine) canGoOn(t api.Thread) bool {
	switch {
	case t.Waits >= 0:
		return m.is.Futures[t.Waits].Done
	case t.Signal >= 0:
		return len(m.is.Signals[t.Signal]) > 0
	}
	return true
}

// taken is the first value of a signal, which is there no more.
func (m *Machine) taken(name int64) int64 {
	values := m.is.Signals[name]
	first := values[0]
	m.is.Signals[name] = slices.Delete(values, 0, 1)
	return first
}

// cancelled: was a scope cancelled, or one of those that it stands in?
func (m *Machine) cancelled(scope int) bool {
	for ; scope >= 0; scope = m.is.Scopes[scope].Parent {
		if m.is.Scopes[scope].Cancelled {
			return true
		}
	}
	return false
}

// alive are the futures that aren't done, and whose scopes aren't cancelled.
func (m *Machine) alive() []int {
	var l []int
	for i, f := range m.is.Futures {
		if !f.Done && !m.cancelled(f.Scope) {
			l = append(l, i)
		}
	}
	return l
}

// there: is there what the number stands for that an instruction takes first?
func (m *Machine) there(op int, n int64) bool {
	switch op {
	case api.OpAwait, api.OpReady:
		return isPlace(n, len(m.is.Futures))
	case api.OpTell:
		if !isPlace(n, len(m.is.Futures)) {
			return false
		}
		f := m.is.Futures[n]
		return f.Kind == api.EvChild && f.Event != 0
	case api.OpEnter, api.OpCancel:
		return isPlace(n, len(m.is.Scopes))
	}
	return true
}

// isPlace: is a number the place of one of so many?
func isPlace(n int64, many int) bool { return n >= 0 && n < int64(many) }
