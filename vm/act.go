package vm

import "tapestry/api"

// act does an instruction that isn't pure, which took a, or a and b.
func (k *task) act(t *api.Thread, op api.Op, a, b int64) course {
	is := &k.m.is
	switch op.Code {
	case api.OpStore:
		is.Vars[op.A] = a
	case api.OpDraw:
		k.drawOne(t)
	case api.OpAct:
		k.order(t, api.Event{Kind: api.EvActivity, A: op.A, B: a})
	case api.OpTimer:
		k.order(t, api.Event{Kind: api.EvTimer, A: is.Now + min(max(a, 0), api.MaxWait)})
	case api.OpChild:
		k.order(t, api.Event{Kind: api.EvChild, A: op.A, B: a})
	case api.OpAwait:
		return k.await(t, a)
	case api.OpReady:
		push(t, truth(is.Futures[a].Done))
	case api.OpWait:
		return k.wait(t, op.A)
	case api.OpGo:
		k.spawn(t, int(op.A), a)
	case api.OpYield:
		return yields
	case api.OpScope:
		k.scope(t)
	case api.OpEnter:
		t.Scope = int(a)
	case api.OpCancel:
		k.cancel(int(a))
	case api.OpCancelled:
		push(t, truth(k.m.cancelled(t.Scope)))
	case api.OpAttr:
		if k.command(api.Event{Kind: api.EvAttr, A: op.A, B: a}) {
			is.Attrs[op.A] = a
		}
	case api.OpTell:
		k.command(api.Event{Kind: api.EvTell, A: int64(is.Futures[a].Event), B: op.A, C: b})
	case api.OpAgain:
		k.command(api.Event{Kind: api.EvAgain, A: a})
	}
	if is.Over {
		return closes
	}
	return onward
}

// drawOne draws a number.
func (k *task) drawOne(t *api.Thread) {
	value := k.draw(k.m.seen + 1)
	if k.command(api.Event{Kind: api.EvDraw, A: value}) {
		push(t, value)
	}
}

// order makes a future of what a command asks for.
func (k *task) order(t *api.Thread, e api.Event) {
	f := api.Future{Kind: e.Kind, Scope: t.Scope}
	if k.m.cancelled(t.Scope) {
		f.Done, f.Status = true, api.EndCanceled
	} else {
		if !k.command(e) {
			return
		}
		f.Event = k.m.seen
	}
	k.leave(t, f)
}

// leave makes a future, and leaves its number.
func (k *task) leave(t *api.Thread, f api.Future) {
	push(t, int64(len(k.m.is.Futures)))
	k.m.is.Futures = append(k.m.is.Futures, f)
}

// await leaves what a future has come to, or waits for it.
func (k *task) await(t *api.Thread, n int64) course {
	f := k.m.is.Futures[n]
	switch {
	case !f.Done:
		push(t, n)
		t.At--
		t.Waits = int(n)
		return waits
	case len(t.Stack)+2 > api.MaxStack:
		return faults
	}
	push(t, f.Value, int64(f.Status))
	return onward
}

// wait takes a signal's first value, or waits for one.
func (k *task) wait(t *api.Thread, name int64) course {
	switch {
	case len(k.m.is.Signals[name]) == 0:
		t.At--
		t.Signal = int(name)
		return waits
	case len(t.Stack)+1 > api.MaxStack:
		return faults
	}
	push(t, k.m.taken(name))
	return onward
}

// spawn makes a thread more, and a future of what it will come to.
func (k *task) spawn(t *api.Thread, fn int, arg int64) {
	if len(k.m.is.Threads) >= api.MaxThreads {
		k.fail(api.CodeMany)
		return
	}
	k.m.begin(api.Thread{Func: fn, Scope: t.Scope, Arg: arg, Future: len(k.m.is.Futures)})
	k.leave(t, api.Future{Scope: t.Scope})
}

// scope makes a scope in the thread's, and leaves its number.
func (k *task) scope(t *api.Thread) {
	if len(k.m.is.Scopes) >= api.MaxScopes {
		k.fail(api.CodeMany)
		return
	}
	push(t, int64(len(k.m.is.Scopes)))
	k.m.is.Scopes = append(k.m.is.Scopes, api.Scope{Parent: t.Scope})
}
