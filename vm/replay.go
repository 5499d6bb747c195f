package vm

import (
	"iter"

	"tapestry/api"
	"tapestry/event"
	"tapestry/grammar"
)

// Replay is one that has gone through a history; what is wrong, and at which event.
func Replay(p api.Program, h []api.Event) (*Machine, api.Errno, int) {
	m, err := New(p)
	if err != api.OK {
		return nil, err, 0
	}
	if err, at := grammar.Check(h); err != api.OK {
		return nil, err, at
	}
	for at, l := range stretches(h) {
		if same, ok := m.relive(l); !ok {
			return nil, api.ErrDrift, at + same
		}
	}
	return m, api.OK, 0
}

// stretches hands over a history as a replay expects it: each event that no task made, by itself, and each task with all commands that stand behind it; and at which place.
func stretches(h []api.Event) iter.Seq2[int, []api.Event] {
	return func(yield func(int, []api.Event) bool) {
		for at := 0; at < len(h); {
			end := at + 1
			for h[at].Kind == api.EvTask && end < len(h) && event.Command(h[end].Kind) {
				end++
			}
			if !yield(at, h[at:end]) {
				return
			}
			at = end
		}
	}
}

// relive lets the machine go through a stretch: how many of its events are so, and whether these are all that there are to be.
func (m *Machine) relive(l []api.Event) (int, bool) {
	if l[0].Kind != api.EvTask {
		m.take(l[0])
		return 1, true
	}
	made := m.task(l[0].Time, redrawn(l))
	same := 0
	for same < min(len(made), len(l)) && alike(made[same], l[same]) {
		same++
	}
	// That the history was full may have been found behind the task.
	if same == len(made) && same < len(l) && fromOutside(l[same]) {
		m.take(l[same])
		return len(l), true
	}
	return same, same == len(made) && same == len(l)
}

// redrawn are the values of a task's draws as they stand behind it. Where none stands the task drifts, whatever the value.
func redrawn(l []api.Event) func(id int) int64 {
	return func(id int) int64 {
		at := id - l[0].Id
		if at < len(l) && l[at].Kind == api.EvDraw {
			return l[at].A
		}
		return 0
	}
}

// alike: is what a task makes what stands at its place? Which run goes on behind an EvAgain, no task knows, and when the history was full, it need not be the task's time.
func alike(made, stands api.Event) bool {
	if made.Kind == api.EvAgain {
		made.B = stands.B
	}
	made.Time = stands.Time
	return made == stands
}
