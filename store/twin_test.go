package store

import (
	"fmt"
	"maps"
	"math"
	"slices"
	"strings"
	"testing"

	"tapestry/api"
	"tapestry/block"
	"tapestry/compact"
	"tapestry/files"
	"tapestry/manifest"
	"tapestry/memtable"
	"tapestry/table"
	"tapestry/wal"
)

// twin is a store as the chapter's words say it, on a disk of its own: plain lists of versions, one way for everything. Its disk must be that of the store, act by act and block by block.
type twin struct {
	c         api.StoreConfig
	d         *block.Dev
	fs        *files.FS
	live      api.Live
	name      string // the manifest's
	edits     int
	next, seq uint64
	logs      []uint64
	mem       []api.Version
	frozen    []api.Version
	hasFrozen bool
	snaps     map[uint64]uint64
	given     uint64
	job       *api.Job
	lists     [][]api.Version // of tables that are still to be written
	written   []api.Table
	after     [api.Levels]string
	full      bool
}

// openTwin is P12.2, of arguments that may be.
func openTwin(d *block.Dev, c api.StoreConfig) (*twin, api.Errno) {
	fs, err := files.Open(d)
	if err != api.OK {
		return nil, err
	}
	w := &twin{c: c, d: d, fs: fs, snaps: map[uint64]uint64{}}
	names := fs.Names()
	if len(names) == 0 {
		w.next, w.logs, w.name, w.edits = 3, []uint64{2}, manifest.Name(1), 1
		w.live = api.Live{Next: 3, Log: 2}
		entry, _ := manifest.Encode(api.Edit{Next: 3, Log: 2})
		fs.Create(w.name)
		fs.Append(w.name, entry)
		fs.Create("current")
		fs.Append("current", w.name)
		fs.Create(wal.Name(2))
		if err := fs.Commit(); err != api.OK {
			return nil, err
		}
		return w, api.OK
	}
	w.name = w.bytes("current")
	w.live, w.edits, _, _ = manifest.Replay(w.bytes(w.name))
	w.next, w.seq = w.live.Next, w.live.Seq
	for _, name := range names {
		for _, f := range []func(string) (uint64, bool){wal.Number, manifest.Number, manifest.TableNumber} {
			if n, ok := f(name); ok && n >= w.next {
				w.next = n + 1
			}
		}
		if n, ok := wal.Number(name); ok && n >= w.live.Log {
			w.logs = append(w.logs, n)
			batches, _ := wal.Replay(w.bytes(name))
			for _, b := range batches {
				w.put(b)
			}
		}
	}
	slices.Sort(w.logs)
	if orphans := manifest.Orphans(w.live, w.name, names); len(orphans) > 0 {
		for _, name := range orphans {
			fs.Delete(name)
		}
		if err := fs.Commit(); err != api.OK {
			return nil, err
		}
	}
	return w, api.OK
}

func (w *twin) bytes(name string) string {
	s, _ := w.fs.Read(name, 0, math.MaxInt)
	return s
}

// put adds a batch's versions to the memtable.
func (w *twin) put(b api.Batch) {
	for i, p := range b.Puts {
		seq := b.Seq + uint64(i)
		w.mem = append(w.mem, api.Version{Key: p.Key, Seq: seq, Del: p.Del, Value: p.Value})
		w.seq = max(w.seq, seq)
	}
	sortVersions(w.mem)
}

func sortVersions(l []api.Version) {
	slices.SortFunc(l, func(a, b api.Version) int {
		switch {
		case memtable.Less(a, b):
			return -1
		case memtable.Less(b, a):
			return 1
		}
		return 0
	})
}

func (w *twin) write(l []api.Put) api.Errno {
	if err := wal.Check(l); err != api.OK || len(l) == 0 {
		return err
	}
	b := api.Batch{Seq: w.seq + 1, Puts: l}
	entry, _ := wal.Encode(b)
	w.fs.Append(wal.Name(w.logs[len(w.logs)-1]), entry)
	err := w.fs.Commit()
	w.full = err == api.ErrFull
	if err != api.OK {
		w.fs.Revert()
		return err
	}
	w.put(b)
	return api.OK
}

// work is P12.6.
func (w *twin) work() (bool, api.Errno) {
	before := *w
	what, err := w.step()
	if err == api.OK && what {
		err = w.fs.Commit()
	}
	if err != api.OK {
		w.fs.Revert()
		*w = before
		return false, err
	}
	return what, api.OK
}

func (w *twin) memBytes() int {
	n := 0
	for _, v := range w.mem {
		n += len(v.Key) + len(v.Value) + 16
	}
	return n
}

// step is what Work does ahead of its Commit.
func (w *twin) step() (bool, api.Errno) {
	if w.hasFrozen {
		return true, w.flush()
	}
	if w.memBytes() >= w.c.Mem {
		w.next++
		w.logs = append(slices.Clone(w.logs), w.next-1)
		w.hasFrozen, w.frozen, w.mem = true, w.mem, nil
		return true, w.fs.Create(wal.Name(w.next - 1))
	}
	if w.job != nil {
		return true, w.compactStep()
	}
	job, ok := compact.Pick(w.c, w.live, w.after)
	if !ok {
		return false, api.OK
	}
	var all []api.Version
	for _, t := range slices.Concat(job.From, job.To) {
		opened, err := table.Open(w.bytes(manifest.Table(t.Number)))
		if err != api.OK || opened.Check() != api.OK {
			return false, api.ErrBroken
		}
		all = slices.AppendSeq(all, opened.From(""))
	}
	sortVersions(all)
	w.job, w.lists, w.written = &job, cutPlain(keepPlain(all, w.floors(), job.Bottom), w.c.Table), nil
	return true, api.OK
}

func (w *twin) floors() []uint64 { return slices.Sorted(maps.Values(w.snaps)) }

func (w *twin) flush() api.Errno {
	kept := keepPlain(w.frozen, w.floors(), false)
	t, err := w.table(0, kept)
	if err != api.OK {
		return err
	}
	seq := w.live.Seq
	for _, v := range w.frozen {
		seq = max(seq, v.Seq)
	}
	last := w.logs[len(w.logs)-1]
	if err := w.edit(api.Edit{Next: w.next, Seq: seq, Log: last, Add: []api.Table{t}}); err != api.OK {
		return err
	}
	for _, n := range w.logs[:len(w.logs)-1] {
		w.fs.Delete(wal.Name(n))
	}
	w.logs, w.frozen, w.hasFrozen = []uint64{last}, nil, false
	return api.OK
}

// table writes one of a new number.
func (w *twin) table(level int, l []api.Version) (api.Table, api.Errno) {
	w.next++
	s, err := table.Build(w.c.Block, w.c.Bits, l)
	if err != api.OK {
		return api.Table{}, err
	}
	name := manifest.Table(w.next - 1)
	if err := w.fs.Create(name); err != api.OK {
		return api.Table{}, err
	}
	w.fs.Append(name, s)
	return api.Table{Number: w.next - 1, Level: level, Size: len(s), Count: len(l), Least: l[0].Key, Greatest: l[len(l)-1].Key}, api.OK
}

func (w *twin) compactStep() api.Errno {
	if len(w.lists) > 0 {
		t, err := w.table(w.job.Level+1, w.lists[0])
		if err == api.OK {
			w.lists, w.written = w.lists[1:], append(slices.Clone(w.written), t)
		}
		return err
	}
	e := api.Edit{Next: w.next, Seq: w.live.Seq, Log: w.live.Log, Add: w.written}
	greatest := ""
	for _, t := range w.job.From {
		e.Drop = append(e.Drop, t.Number)
		greatest = max(greatest, t.Greatest)
	}
	for _, t := range w.job.To {
		e.Drop = append(e.Drop, t.Number)
	}
	if err := w.edit(e); err != api.OK {
		return err
	}
	for _, n := range e.Drop {
		w.fs.Delete(manifest.Table(n))
	}
	w.after[w.job.Level] = greatest
	w.job, w.written = nil, nil
	return api.OK
}

// edit is "An edit is WRITTEN".
func (w *twin) edit(e api.Edit) api.Errno {
	live, err := manifest.Apply(w.live, e)
	if err != api.OK {
		return err
	}
	w.live = live
	if w.edits < w.c.Edits {
		entry, _ := manifest.Encode(e)
		w.fs.Append(w.name, entry)
		w.edits++
		return api.OK
	}
	w.next++
	w.live.Next = w.next
	name := manifest.Name(w.next - 1)
	entry, _ := manifest.Encode(manifest.Whole(w.live))
	if err := w.fs.Create(name); err != api.OK {
		return err
	}
	w.fs.Append(name, entry)
	if err := w.fs.Create("current.new"); err != api.OK {
		return err
	}
	w.fs.Append("current.new", name)
	w.fs.Rename("current.new", "current")
	w.fs.Delete(w.name)
	w.name, w.edits = name, 1
	return api.OK
}

func (w *twin) stats() api.StoreStats {
	if !w.d.Up() {
		return api.StoreStats{}
	}
	st := api.StoreStats{Seq: w.seq, Mem: len(w.mem), Frozen: len(w.frozen), Files: len(w.fs.Names()), Free: w.fs.Free(), Full: w.full, Snaps: len(w.snaps), Generation: w.fs.Root().Generation}
	for i, l := range w.live.Tables {
		st.Tables[i] = len(l)
	}
	_, due := compact.Pick(w.c, w.live, w.after)
	switch {
	case w.hasFrozen || w.memBytes() >= w.c.Mem:
		st.Work = 1
	case w.job != nil || due:
		st.Work = 2
	}
	return st
}

// keepPlain is P9.2 of a list in order.
func keepPlain(l []api.Version, floors []uint64, bottom bool) []api.Version {
	var kept []api.Version
	for at := 0; at < len(l); {
		end := at
		var group []api.Version
		for ; end < len(l) && l[end].Key == l[at].Key; end++ {
			needed := end == at || slices.ContainsFunc(floors, func(f uint64) bool { return f >= l[end].Seq && f < l[end-1].Seq })
			if needed {
				group = append(group, l[end])
			}
		}
		for bottom && len(group) > 0 && group[len(group)-1].Del {
			group = group[:len(group)-1]
		}
		kept, at = append(kept, group...), end
	}
	return kept
}

// cutPlain is P9.4 of a list in order.
func cutPlain(l []api.Version, bytes int) [][]api.Version {
	var lists [][]api.Version
	var list []api.Version
	n := 0
	for i, v := range l {
		list = append(list, v)
		n += len(v.Key) + len(v.Value) + 16
		if i+1 == len(l) || n >= bytes && l[i+1].Key != v.Key {
			lists, list, n = append(lists, list), nil, 0
		}
	}
	return lists
}

// sameDisk holds two disks against each other, act by act and block by block.
func sameDisk(a, b *block.Dev) string {
	if a.Acts() != b.Acts() || a.Up() != b.Up() || a.Epoch() != b.Epoch() || !slices.Equal(a.Pending(), b.Pending()) {
		return fmt.Sprint("acts, up, epoch, pending: ", a.Acts(), a.Up(), a.Epoch(), a.Pending(), "; ", b.Acts(), b.Up(), b.Epoch(), b.Pending())
	}
	for i := range a.Blocks() {
		x, _ := a.Read(i)
		y, _ := b.Read(i)
		if x != y {
			return fmt.Sprintf("block %d: %q, %q", i, x, y)
		}
	}
	return ""
}

// plain is a plain map, and what it was at each snapshot.
type plain struct {
	now   map[string]string
	snaps map[uint64]map[string]string
}

func newPlain() *plain {
	return &plain{map[string]string{}, map[uint64]map[string]string{}}
}

func (p *plain) write(l []api.Put) {
	for _, x := range l {
		if x.Del {
			delete(p.now, x.Key)
		} else {
			p.now[x.Key] = x.Value
		}
	}
}

// scanPlain is what Scan tells of a plain map.
func scanPlain(m map[string]string, lo, hi string, most int) []api.Pair {
	var l []api.Pair
	for _, k := range slices.Sorted(maps.Keys(m)) {
		if k >= lo && (hi == "" || k < hi) && len(l) < most {
			l = append(l, api.Pair{Key: k, Value: m[k]})
		}
	}
	return l
}

// tells holds all that a store tells against a plain map.
func tells(t *testing.T, what string, s *Store, p *plain) {
	t.Helper()
	sees(t, what, p.now, func(k string) (string, bool, api.Errno) { return s.Get(k) }, func(lo, hi string, most int) ([]api.Pair, api.Errno) { return s.Scan(lo, hi, most) })
	for n, m := range p.snaps {
		sees(t, fmt.Sprint(what, " snap ", n), m, func(k string) (string, bool, api.Errno) { return s.GetAt(n, k) }, func(lo, hi string, most int) ([]api.Pair, api.Errno) { return s.ScanAt(n, lo, hi, most) })
	}
}

func sees(t *testing.T, what string, m map[string]string, get func(string) (string, bool, api.Errno), scan func(string, string, int) ([]api.Pair, api.Errno)) {
	t.Helper()
	l, err := scan("", "", math.MaxInt)
	if want := scanPlain(m, "", "", math.MaxInt); err != api.OK || !slices.Equal(l, want) {
		t.Fatalf("%s: Scan: %d %v, want %v", what, err, brief(l), brief(want))
	}
	for k, v := range m {
		if got, ok, err := get(k); got != v || !ok || err != api.OK {
			t.Fatalf("%s: Get(%q): %q %v %d, want %q", what, k, got, ok, err, v)
		}
	}
}

// brief are pairs with short values.
func brief(l []api.Pair) string {
	var b strings.Builder
	for _, p := range l {
		fmt.Fprintf(&b, "%q:%d:%.12q ", p.Key, len(p.Value), p.Value)
	}
	return b.String()
}
