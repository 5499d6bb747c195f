package store

import (
	"tapestry/api"
	"tapestry/files"
	"tapestry/manifest"
)

const currentNew = "current.new" // what is to be current

// books are what a store knows of its files.
type books struct {
	live     api.Live
	manifest string // its name
	edits    int    // so many it has
	next     uint64 // the next file's number
	log      uint64 // the last log's
}

// take takes a number for a file.
func (b *books) take() uint64 {
	b.next++
	return b.next - 1
}

// draft is a change of the files, and of the books, on its way: behind one thing that was refused nothing more is done.
type draft struct {
	books
	fs  *files.FS
	err api.Errno
}

// change makes what is done to a draft safe, all at one time. Behind an error all is as it was.
func (s *Store) change(do func(d *draft)) api.Errno {
	d := &draft{books: s.books, fs: s.fs}
	do(d)
	d.try(s.fs.Commit)
	if d.err != api.OK {
		s.fs.Revert()
		return known(d.err)
	}
	s.books = d.books
	return api.OK
}

// try does a thing.
func (d *draft) try(do func() api.Errno) {
	if d.err == api.OK {
		d.err = do()
	}
}

// create makes a file of some bytes.
func (d *draft) create(name, bytes string) {
	d.try(func() api.Errno { return d.fs.Create(name) })
	d.append(name, bytes)
}

// append puts bytes behind a file's.
func (d *draft) append(name, bytes string) {
	d.try(func() api.Errno { return d.fs.Append(name, bytes) })
}

// rename gives a file another one's name.
func (d *draft) rename(from, to string) {
	d.try(func() api.Errno { return d.fs.Rename(from, to) })
}

// delete takes a file away.
func (d *draft) delete(name string) {
	d.try(func() api.Errno { return d.fs.Delete(name) })
}

// edit writes an edit into the manifest; if that has so many already, all that is live then into a new one.
func (d *draft) edit(e api.Edit, most int) {
	d.try(func() (err api.Errno) {
		d.live, err = manifest.Apply(d.live, e)
		return err
	})
	if d.edits >= most {
		d.renew()
		return
	}
	d.append(d.manifest, d.encode(e))
	d.edits++
}

// renew begins a new manifest with all that is live.
func (d *draft) renew() {
	old := d.manifest
	d.manifest, d.edits = manifest.Name(d.take()), 1
	d.live.Next = d.next
	d.create(d.manifest, d.encode(manifest.Whole(d.live)))
	d.create(currentNew, d.manifest)
	d.rename(currentNew, currentName)
	d.delete(old)
}

// encode is an edit as bytes.
func (d *draft) encode(e api.Edit) string {
	entry := ""
	d.try(func() (err api.Errno) {
		entry, err = manifest.Encode(e)
		return err
	})
	return entry
}
