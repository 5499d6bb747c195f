package manifest

import (
	"cmp"
	"slices"

	"tapestry/api"
)

// mark: what an edit says of a number.
type mark struct {
	drop  bool // the table of that number is dropped
	added bool // one of that number is added
	gone  bool // a live table was dropped by it
}

// step is what an edit that may be makes of live tables; false: it can't be done to these. The marks are cleared here, so they serve step behind step. The lists that come out are new, their texts are those of what went in.
func step(l api.Live, e api.Edit, marks map[uint64]mark) (api.Live, bool) {
	if e.Next < l.Next || e.Seq < l.Seq || e.Log < l.Log || !markAll(marks, e) {
		return api.Live{}, false
	}
	next := api.Live{Next: e.Next, Seq: e.Seq, Log: e.Log}
	for level, list := range l.Tables {
		stay, ok := kept(list, marks)
		if !ok {
			return api.Live{}, false
		}
		next.Tables[level] = stay
	}
	for _, number := range e.Drop {
		if !marks[number].gone {
			return api.Live{}, false
		}
	}
	for _, t := range e.Add {
		next.Tables[t.Level] = append(next.Tables[t.Level], t)
	}
	for level, list := range next.Tables {
		sortLevel(level, list)
		if level > 0 && anyOverlap(list) {
			return api.Live{}, false
		}
	}
	return next, true
}

// markAll marks the numbers of an edit, and of nothing else; false: one is dropped twice, added twice, or may not be given yet.
func markAll(marks map[uint64]mark, e api.Edit) bool {
	clear(marks)
	for _, number := range e.Drop {
		if marks[number].drop {
			return false
		}
		marks[number] = mark{drop: true}
	}
	for _, t := range e.Add {
		m := marks[t.Number]
		if m.added || t.Number >= e.Next {
			return false
		}
		m.added = true
		marks[t.Number] = m
	}
	return true
}

// kept are those of a level's tables that are not dropped; false: one of them has a number that is added.
func kept(list []api.Table, marks map[uint64]mark) ([]api.Table, bool) {
	var stay []api.Table
	for _, t := range list {
		m := marks[t.Number]
		switch {
		case m.drop:
			m.gone = true
			marks[t.Number] = m
		case m.added:
			return nil, false
		default:
			stay = append(stay, t)
		}
	}
	return stay, true
}

// sortLevel puts the tables of a level in order.
func sortLevel(level int, list []api.Table) {
	slices.SortStableFunc(list, func(a, b api.Table) int {
		if level == 0 {
			return cmp.Compare(a.Number, b.Number)
		}
		return cmp.Compare(a.Least, b.Least)
	})
}

// anyOverlap tells whether two tables of a list by rising keys overlap.
func anyOverlap(list []api.Table) bool {
	last := -1
	for i, t := range list {
		if last >= 0 && overlap(list[last], t) {
			return true
		}
		// Of tables that don't overlap only the last one may reach so far as the next one; of those whose keys stand the wrong way round, none does.
		if t.Least <= t.Greatest {
			last = i
		}
	}
	return false
}

// overlap tells whether a key may lie in both of two tables.
func overlap(a, b api.Table) bool { return a.Greatest >= b.Least && b.Greatest >= a.Least }
