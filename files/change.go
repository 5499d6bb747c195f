package files

import (
	"strings"

	"tapestry/api"
)

// Create makes a file without bytes.
func (f *FS) Create(name string) api.Errno {
	if err := f.refusal(); err != api.OK {
		return err
	}
	_, there := f.hand[name]
	switch {
	case !isName(name):
		return api.ErrArg
	case there:
		return api.ErrThere
	case len(f.hand) == api.MaxFiles:
		return api.ErrFull
	}
	f.hand[strings.Clone(name)] = &file{}
	f.changed = true
	return api.OK
}

// Append puts bytes behind a file's.
func (f *FS) Append(name, s string) api.Errno {
	h, err := f.find(name)
	if err != api.OK {
		return err
	}
	h.fresh = append(h.fresh, s...)
	f.changed = f.changed || s != ""
	return api.OK
}

// Rename gives a file another name; who had that is no more.
func (f *FS) Rename(from, to string) api.Errno {
	if err := f.refusal(); err != api.OK {
		return err
	}
	if !isName(to) {
		return api.ErrArg
	}
	h, err := f.find(from)
	if err != api.OK || from == to {
		return err
	}
	delete(f.hand, from)
	f.hand[strings.Clone(to)] = h
	f.changed = true
	return api.OK
}

// Delete takes a file away.
func (f *FS) Delete(name string) api.Errno {
	if _, err := f.find(name); err != api.OK {
		return err
	}
	delete(f.hand, name)
	f.changed = true
	return api.OK
}

// Revert takes back all that was changed since the last commit.
func (f *FS) Revert() {
	if f.refusal() != api.OK {
		return
	}
	clear(f.hand)
	for _, s := range f.safe.Files {
		f.hand[s.Name] = &file{old: s.Size, blocks: s.Blocks}
	}
	f.changed = false
}
