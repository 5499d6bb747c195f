package store

import (
	"math"

	"tapestry/api"
	"tapestry/block"
	"tapestry/files"
	"tapestry/manifest"
	"tapestry/memtable"
	"tapestry/table"
	"tapestry/wal"
)

const (
	currentName   = "current" // of the file that says which manifest is the one
	firstManifest = 1
	firstLog      = 2
	firstNext     = 3
	endOfNumbers  = 1 << 62 // no file of a store has so great a number (chapter 10)
)

// Open is the one that lies on a disk; on a disk that has none it makes one.
func Open(d *block.Dev, c api.StoreConfig) (*Store, api.Errno) {
	if Check(c) != api.OK || d == nil {
		return nil, api.ErrArg
	}
	fs, err := files.Open(d)
	if err != api.OK {
		return nil, err
	}
	s := &Store{disk: d, epoch: d.Epoch(), config: c, fs: fs, mem: memtable.New(), opened: map[uint64]*table.Table{}}
	names := fs.Names()
	if len(names) == 0 {
		err = s.makeNew()
	} else {
		err = s.load(names)
	}
	if err != api.OK {
		return nil, err
	}
	return s, api.OK
}

// makeNew makes a store where there is none.
func (s *Store) makeNew() api.Errno {
	return s.change(func(d *draft) {
		d.manifest, d.next, d.log = manifest.Name(firstManifest), firstNext, firstLog
		d.create(d.manifest, "")
		d.edit(api.Edit{Next: firstNext, Log: firstLog}, s.config.Edits)
		d.create(currentName, d.manifest)
		d.create(wal.Name(firstLog), "")
	})
}

// load reads the store that files of these names, which rise, make.
func (s *Store) load(names []string) api.Errno {
	if err := s.loadLive(); err != api.OK {
		return err
	}
	s.seq, s.books.next = s.books.live.Seq, s.books.live.Next
	logs := 0
	for _, name := range names {
		if n, ok := number(name); ok {
			if n >= endOfNumbers {
				return api.ErrBroken
			}
			s.books.next = max(s.books.next, n+1)
		}
		if n, ok := wal.Number(name); ok && n >= s.books.live.Log {
			if err := s.loadLog(name); err != api.OK {
				return err
			}
			s.books.log = n // names rise as numbers do: the last one stays
			logs++
		}
	}
	if logs == 0 {
		return api.ErrBroken
	}
	return s.change(func(d *draft) {
		for _, name := range manifest.Orphans(d.live, d.manifest, names) {
			d.delete(name)
		}
	})
}

// loadLive reads what is live from the manifest.
func (s *Store) loadLive() api.Errno {
	name, err := s.whole(currentName)
	if err != api.OK {
		return err
	}
	bytes, err := s.whole(name)
	if err != api.OK {
		return err
	}
	live, many, end, err := manifest.Replay(bytes)
	// Stores commit edits whole, so what can't be replayed is of others; so is what has no edit.
	if err != api.OK || many == 0 || end != len(bytes) {
		return api.ErrBroken
	}
	s.books = books{live: live, manifest: name, edits: many}
	return api.OK
}

// loadLog puts the versions of a log into the memtable.
func (s *Store) loadLog(name string) api.Errno {
	bytes, err := s.whole(name)
	if err != api.OK {
		return err
	}
	batches, end := wal.Replay(bytes)
	// Behind bytes that are no batch a batch would be lost.
	if end != len(bytes) {
		return api.ErrBroken
	}
	for _, b := range batches {
		if err := s.add(b); err != api.OK {
			return err
		}
	}
	return api.OK
}

// whole are all bytes of a file.
func (s *Store) whole(name string) (string, api.Errno) {
	bytes, err := s.fs.Read(name, 0, math.MaxInt)
	return bytes, known(err)
}

// number is the number that a file's name says; false: it says none.
func number(name string) (uint64, bool) {
	for _, of := range []func(string) (uint64, bool){wal.Number, manifest.Number, manifest.TableNumber} {
		if n, ok := of(name); ok {
			return n, true
		}
	}
	return 0, false
}
