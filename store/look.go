package store

import (
	"iter"
	"slices"

	"tapestry/api"
	"tapestry/manifest"
	"tapestry/memtable"
	"tapestry/merge"
	"tapestry/table"
)

// Get is a key's value; false: it has none.
func (s *Store) Get(key string) (string, bool, api.Errno) {
	if err := s.refusal(); err != api.OK {
		return "", false, err
	}
	return s.get(s.seq, key)
}

// Scan are the keys from lo on, below hi ("": all), rising, at most so many.
func (s *Store) Scan(lo, hi string, most int) ([]api.Pair, api.Errno) {
	if most < 0 {
		return nil, api.ErrArg
	}
	if err := s.refusal(); err != api.OK {
		return nil, err
	}
	return s.scan(s.seq, lo, hi, most)
}

// Snap takes a snapshot: its number.
func (s *Store) Snap() (uint64, api.Errno) {
	if err := s.refusal(); err != api.OK {
		return 0, err
	}
	if len(s.snaps) == api.MaxSnaps {
		return 0, api.ErrFull
	}
	s.given++
	s.snaps = append(s.snaps, snap{s.given, s.seq})
	return s.given, api.OK
}

// Release lets go of one.
func (s *Store) Release(snap uint64) api.Errno {
	at, err := s.find(snap)
	if err != api.OK {
		return err
	}
	s.snaps = slices.Delete(s.snaps, at, at+1)
	return api.OK
}

// GetAt and ScanAt look at a snapshot.
func (s *Store) GetAt(snap uint64, key string) (string, bool, api.Errno) {
	at, err := s.find(snap)
	if err != api.OK {
		return "", false, err
	}
	return s.get(s.snaps[at].seq, key)
}

func (s *Store) ScanAt(snap uint64, lo, hi string, most int) ([]api.Pair, api.Errno) {
	if most < 0 {
		return nil, api.ErrArg
	}
	at, err := s.find(snap)
	if err != api.OK {
		return nil, err
	}
	return s.scan(s.snaps[at].seq, lo, hi, most)
}

// find is the place of a snapshot among all.
func (s *Store) find(number uint64) (int, api.Errno) {
	if err := s.refusal(); err != api.OK {
		return 0, err
	}
	at := slices.IndexFunc(s.snaps, func(n snap) bool { return n.number == number })
	if at < 0 {
		return 0, api.ErrSnap
	}
	return at, api.OK
}

// floors are the sequence numbers at which somebody may look, besides the newest one; rising.
func (s *Store) floors() []uint64 {
	var l []uint64
	for _, n := range s.snaps {
		l = append(l, n.seq)
	}
	return l
}

// get is a key's value as it is seen at a sequence number.
func (s *Store) get(seq uint64, key string) (string, bool, api.Errno) {
	newest := api.Version{Del: true} // as if it had never been put
	for v, err := range s.versions(seq, key) {
		if err != api.OK {
			return "", false, err
		}
		if v.Seq > newest.Seq {
			newest = v
		}
	}
	return newest.Value, !newest.Del, api.OK
}

// scan are the pairs that are seen at a sequence number.
func (s *Store) scan(seq uint64, lo, hi string, most int) ([]api.Pair, api.Errno) {
	if most == 0 {
		return nil, api.OK
	}
	rows := []iter.Seq[api.Version]{s.mem.From(lo), s.frozen.From(lo)}
	for t, err := range s.tables(lo, hi) {
		if err != api.OK {
			return nil, err
		}
		rows = append(rows, t.From(lo))
	}
	var l []api.Pair
	for p := range merge.Pairs(merge.Merge(rows...), seq, lo, hi) {
		l = append(l, p)
		if len(l) == most {
			break
		}
	}
	return l, api.OK
}

// versions goes through what each origin has of a key up to a sequence number: its newest version. A table that can't be read has an error in its place.
func (s *Store) versions(seq uint64, key string) iter.Seq2[api.Version, api.Errno] {
	return func(yield func(api.Version, api.Errno) bool) {
		for _, m := range []*memtable.Table{s.mem, s.frozen} {
			if v, ok := m.Get(key, seq); ok && !yield(v, api.OK) {
				return
			}
		}
		for t, err := range s.tables(key, key+"\x00") { // no other key lies below that
			var v api.Version
			ok := false
			if err == api.OK {
				v, ok, err = t.Get(key, seq)
			}
			if (ok || err != api.OK) && !yield(v, known(err)) {
				return
			}
		}
	}
}

// tables goes through the live tables in which keys from lo on, below hi ("": all), may lie, each one opened, or with an error in its place.
func (s *Store) tables(lo, hi string) iter.Seq2[*table.Table, api.Errno] {
	return func(yield func(*table.Table, api.Errno) bool) {
		for _, list := range s.books.live.Tables {
			for _, t := range list {
				if t.Greatest < lo || hi != "" && t.Least >= hi {
					continue
				}
				if !yield(s.table(t.Number)) {
					return
				}
			}
		}
	}
}

// table is a live one, opened.
func (s *Store) table(number uint64) (*table.Table, api.Errno) {
	if t, ok := s.opened[number]; ok {
		return t, api.OK
	}
	bytes, err := s.whole(manifest.Table(number))
	if err != api.OK {
		return nil, err
	}
	t, err := table.Open(bytes)
	// A row of versions ends at a block that isn't sound, and doesn't say so: it is asked here, once.
	if err != api.OK || t.Check() != api.OK {
		return nil, api.ErrBroken
	}
	s.opened[number] = t
	return t, api.OK
}
