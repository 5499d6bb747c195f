package store

import (
	"slices"
	"strings"

	"tapestry/api"
)

// The kinds of work that Stats tells.
const (
	noWork         = 0
	flushWork      = 1
	compactionWork = 2
)

// Live are the tables that are live.
func (s *Store) Live() api.Live {
	if s.refusal() != api.OK {
		return api.Live{}
	}
	l := s.books.live
	for level, list := range l.Tables {
		list = slices.Clone(list)
		for i := range list {
			t := &list[i]
			t.Least, t.Greatest = strings.Clone(t.Least), strings.Clone(t.Greatest)
		}
		l.Tables[level] = list
	}
	return l
}

// Stats tells how it stands.
func (s *Store) Stats() api.StoreStats {
	if s.refusal() != api.OK {
		return api.StoreStats{}
	}
	stats := api.StoreStats{
		Seq:        s.seq,
		Mem:        s.mem.Len(),
		Frozen:     s.frozen.Len(),
		Files:      len(s.fs.Names()),
		Free:       s.fs.Free(),
		Full:       s.full,
		Work:       s.kind(),
		Snaps:      len(s.snaps),
		Generation: s.fs.Root().Generation,
	}
	for level, list := range s.books.live.Tables {
		stats.Tables[level] = len(list)
	}
	return stats
}

// kind is of what kind the work is that is to be done next.
func (s *Store) kind() int {
	switch what, _ := s.due(); what {
	case toFlush, toFreeze:
		return flushWork
	case toGoOn, toBegin:
		return compactionWork
	}
	return noWork
}
