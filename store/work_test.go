package store

import (
	"fmt"
	"maps"
	"slices"
	"strings"
	"testing"

	"tapestry/api"
	"tapestry/block"
	"tapestry/manifest"
	"tapestry/table"
	"tapestry/wal"
)

// works makes a step that must be made.
func works(t *testing.T, s *Store) {
	t.Helper()
	moved, err := s.Work()
	is(t, "Work", []any{moved, err}, []any{true, api.OK})
}

// rests tells that nothing is to be done.
func rests(t *testing.T, s *Store) {
	t.Helper()
	moved, err := s.Work()
	is(t, "Work", []any{moved, err}, []any{false, api.OK})
	is(t, "Work of Stats", s.Stats().Work, 0)
}

// build is a table of versions, and what is said of it.
func build(t *testing.T, number uint64, level int, l ...api.Version) (string, api.Table) {
	t.Helper()
	s, err := table.Build(64, 10, l)
	must(t, "Build", err)
	return s, api.Table{Number: number, Level: level, Size: len(s), Count: len(l), Least: l[0].Key, Greatest: l[len(l)-1].Key}
}

func version(key string, seq uint64, value string) api.Version {
	return api.Version{Key: key, Seq: seq, Value: value}
}

func gone(key string, seq uint64) api.Version { return api.Version{Key: key, Seq: seq, Del: true} }

// P12.6: each step, file by file.
func TestWorkStepByStep(t *testing.T) {
	d, s := newStore(t, 64, example())
	z := strings.Repeat("z", 90)
	must(t, "Write", s.Write([]api.Put{put("a", "x"), put("b", "y")}))
	rests(t, s)
	must(t, "Write", s.Write([]api.Put{del("b"), put("c", z)}))

	want := onDisk(t, d)
	works(t, s) // the memtable is frozen
	want[wal.Name(3)] = ""
	is(t, "frozen", onDisk(t, d), want)
	must(t, "Write", s.Write([]api.Put{put("b", z)}))
	want[wal.Name(3)] = batch(t, 5, put("b", z))
	is(t, "written into the new log", onDisk(t, d), want)

	generation := s.Stats().Generation
	works(t, s) // it is flushed
	bytes4, table4 := build(t, 4, 0, version("a", 1, "x"), gone("b", 3), version("c", 4, z))
	want[manifest.Table(4)] = bytes4
	want[manifest.Name(1)] += entry(t, api.Edit{Next: 5, Seq: 4, Log: 3, Add: []api.Table{table4}})
	delete(want, wal.Name(2))
	is(t, "flushed", onDisk(t, d), want)
	is(t, "Live", s.Live(), api.Live{Next: 5, Seq: 4, Log: 3, Tables: [api.Levels][]api.Table{{table4}}})
	is(t, "one commit", s.Stats().Generation, generation+1)

	works(t, s)
	works(t, s) // another one: log 5, table 6
	bytes6, table6 := build(t, 6, 0, version("b", 5, z))
	want[manifest.Table(6)], want[wal.Name(5)] = bytes6, ""
	want[manifest.Name(1)] += entry(t, api.Edit{Next: 7, Seq: 5, Log: 5, Add: []api.Table{table6}})
	delete(want, wal.Name(3))
	is(t, "flushed", onDisk(t, d), want)

	is(t, "Work of Stats", s.Stats().Work, 2)
	acts := d.Acts()
	works(t, s) // a compaction begins
	is(t, "begun", []any{d.Acts(), s.Stats().Work}, []any{acts, 2})
	works(t, s) // it writes its table
	bytes7, table7 := build(t, 7, 1, version("a", 1, "x"), version("b", 5, z), version("c", 4, z))
	want[manifest.Table(7)] = bytes7
	is(t, "written", onDisk(t, d), want)
	is(t, "not live yet", s.Live().Tables, [api.Levels][]api.Table{{table4, table6}})
	works(t, s) // it is over
	want[manifest.Name(1)] += entry(t, api.Edit{Next: 8, Seq: 5, Log: 5, Add: []api.Table{table7}, Drop: []uint64{4, 6}})
	delete(want, manifest.Table(4))
	delete(want, manifest.Table(6))
	is(t, "over", onDisk(t, d), want)
	is(t, "Live", s.Live(), api.Live{Next: 8, Seq: 5, Log: 5, Tables: [api.Levels][]api.Table{nil, {table7}}})
	is(t, "AFTER", s.after, [api.Levels]string{"c"})

	// The manifest has its four edits: the next one makes a new manifest.
	if table7.Size <= 256 {
		t.Fatal("level 1 is not due:", table7.Size)
	}
	works(t, s)
	works(t, s)
	table8 := table7
	table8.Number, table8.Level = 8, 2
	want[manifest.Table(8)] = bytes7
	is(t, "written", onDisk(t, d), want)
	works(t, s)
	want["current"] = manifest.Name(9)
	want[manifest.Name(9)] = entry(t, api.Edit{Next: 10, Seq: 5, Log: 5, Add: []api.Table{table8}})
	delete(want, manifest.Name(1))
	delete(want, manifest.Table(7))
	is(t, "a new manifest", onDisk(t, d), want)
	is(t, "Live", s.Live(), api.Live{Next: 10, Seq: 5, Log: 5, Tables: [api.Levels][]api.Table{nil, nil, {table8}}})
	is(t, "AFTER", s.after, [api.Levels]string{"c", "c"})
	rests(t, s)
	is(t, "tables that are kept open", slices.Collect(maps.Keys(s.opened)), []uint64(nil))
}

// P12.6: a manifest of one edit: each one makes a new manifest, of a number behind that of the table.
func TestWorkManifestOfOneEdit(t *testing.T) {
	c := example()
	c.Edits = 1
	d, s := newStore(t, 64, c)
	must(t, "Write", s.Write([]api.Put{put("a", strings.Repeat("z", 60))}))
	works(t, s)
	works(t, s)
	bytes4, table4 := build(t, 4, 0, version("a", 1, strings.Repeat("z", 60)))
	is(t, "flushed", onDisk(t, d), map[string]string{
		"current":         manifest.Name(5),
		manifest.Name(5):  entry(t, api.Edit{Next: 6, Seq: 1, Log: 3, Add: []api.Table{table4}}),
		manifest.Table(4): bytes4,
		wal.Name(3):       "",
	})
	s, err := Open(d, c)
	must(t, "Open", err)
	is(t, "behind Open", []any{s.books.edits, s.books.next, s.seq}, []any{1, uint64(6), uint64(1)})
}

// P12.6: the edit of a flush doesn't say less than what is live.
func TestWorkSeqOfLive(t *testing.T) {
	d := diskOf(t, 60, map[string]string{
		"current":        manifest.Name(1),
		manifest.Name(1): entry(t, api.Edit{Next: 9, Seq: 77, Log: 2}),
		wal.Name(2):      batch(t, 5, put("a", strings.Repeat("z", 60))),
	})
	s, err := Open(d, example())
	must(t, "Open", err)
	works(t, s)
	works(t, s)
	_, table10 := build(t, 10, 0, version("a", 5, strings.Repeat("z", 60)))
	is(t, "Live", s.Live(), api.Live{Next: 11, Seq: 77, Log: 9, Tables: [api.Levels][]api.Table{{table10}}})
}

// P12.6: 64 bytes or more, not fewer; a flush is ahead of all, and goes on while a compaction is under way.
func TestWorkOrder(t *testing.T) {
	_, s := newStore(t, 200, example())
	must(t, "Write", s.Write([]api.Put{put("a", strings.Repeat("v", 64-16-1-1))}))
	rests(t, s)
	flushed := func(key string) {
		must(t, "Write", s.Write([]api.Put{put(key, strings.Repeat("v", 64-16-len(key)))}))
		is(t, "Work of Stats", s.Stats().Work, 1)
		works(t, s)
		works(t, s)
	}
	flushed("b")
	flushed("c")
	works(t, s)
	is(t, "under way", s.underway != nil, true)
	flushed("d") // ahead of the compaction's steps
	is(t, "Tables", s.Stats().Tables, [api.Levels]int{3})
	works(t, s)
	flushed("e")
	works(t, s)
	is(t, "Tables", s.Stats().Tables, [api.Levels]int{2, 1})
	v, ok, err := s.Get("d")
	is(t, "Get", []any{len(v), ok, err}, []any{47, true, api.OK})
	// The next one takes what was flushed meanwhile.
	works(t, s)
	is(t, "From", []any{len(s.underway.job.From), len(s.underway.job.To)}, []any{2, 0})
}

// P12.6: floors are the snapshots as they were when the compaction began.
func TestWorkFloors(t *testing.T) {
	_, s := newStore(t, 200, example())
	flushed := func(value string) {
		must(t, "Write", s.Write([]api.Put{put("a", value), put("b", strings.Repeat("v", 200))}))
		works(t, s)
		works(t, s)
	}
	flushed("1")
	n, _ := s.Snap()
	flushed("2")
	works(t, s) // begins
	m, _ := s.Snap()
	must(t, "Release", s.Release(n))
	works(t, s)
	works(t, s)
	v, ok, err := s.GetAt(m, "a")
	is(t, "GetAt", []any{v, ok, err}, []any{"2", true, api.OK})
	is(t, "kept for one that is let go of", s.Live().Tables[1][0].Count, 4)
	works(t, s) // level 1 is due
	works(t, s)
	works(t, s)
	is(t, "kept no more", s.Live().Tables[2][0].Count, 2)
}

// P12.6: where nothing is left of what is compacted no table is written, and the edit has none.
func TestWorkCompactsToNothing(t *testing.T) {
	d, s := newStore(t, 200, example())
	for range 2 {
		must(t, "Write", s.Write([]api.Put{del("a"), del("b"), del("c"), del("d")}))
		works(t, s)
		works(t, s)
	}
	works(t, s)
	works(t, s)
	is(t, "Live", s.Live().Tables, [api.Levels][]api.Table{})
	rests(t, s)
	is(t, "names", namesOn(t, d), []string{"current", wal.Name(5), manifest.Name(1)})
	is(t, "manifest", strings.HasSuffix(onDisk(t, d)[manifest.Name(1)], entry(t, api.Edit{Next: 7, Seq: 8, Log: 5, Drop: []uint64{4, 6}})), true)
}

// toStep is a store whose next step is one of the four that write: a freeze, a flush, a compaction's table, its end.
func toStep(t *testing.T, step int) (*block.Dev, *Store, *plain) {
	t.Helper()
	d, s := newStore(t, 300, example())
	p := newPlain()
	write := func(l ...api.Put) {
		must(t, "Write", s.Write(l))
		p.write(l)
	}
	for i := range 2 {
		write(put("a", fmt.Sprint(i)), del("b"), put("c", strings.Repeat("z", 90)))
		works(t, s)
		works(t, s)
	}
	switch step {
	case 0:
		write(put("a", strings.Repeat("v", 90)))
	case 1:
		write(put("a", strings.Repeat("v", 90)))
		works(t, s)
	case 2:
		works(t, s)
	case 3:
		works(t, s)
		works(t, s)
	}
	return d, s, p
}

// ballast fills a disk's blocks, or its files, from outside; and takes that away.
func ballast(t *testing.T, s *Store, blocks bool) func() {
	t.Helper()
	many := 1
	if !blocks {
		many = api.MaxFiles - len(s.fs.Names())
	}
	for i := range many {
		name := fmt.Sprint("ballast", i)
		must(t, "Create", s.fs.Create(name))
		if blocks {
			must(t, "Append", s.fs.Append(name, strings.Repeat("x", api.BlockSize*s.fs.Free())))
		}
	}
	must(t, "Commit", s.fs.Commit())
	return func() {
		for i := range many {
			must(t, "Delete", s.fs.Delete(fmt.Sprint("ballast", i)))
		}
		must(t, "Commit", s.fs.Commit())
	}
}

// P12.6, P12.10: a step for which there is no room changes nothing, and is made when there is.
func TestWorkFull(t *testing.T) {
	for step := range 4 {
		for _, blocks := range []bool{true, false} {
			if blocks && step == 0 || !blocks && step == 3 {
				continue // a log without bytes takes no block; an edit in an old manifest takes no file
			}
			what := fmt.Sprint("step ", step, " blocks ", blocks)
			d, s, p := toStep(t, step)
			_, twin, _ := toStep(t, step)
			away := ballast(t, s, blocks)
			stats, live, books, files, acts := s.Stats(), s.Live(), s.books, onDisk(t, d), d.Acts()
			for range 3 {
				moved, err := s.Work()
				is(t, what, []any{moved, err}, []any{false, api.ErrFull})
			}
			is(t, what+" Stats", s.Stats(), stats)
			is(t, what+" Live", s.Live(), live)
			is(t, what+" books", s.books, books)
			is(t, what+" files", onDisk(t, d), files)
			is(t, what+" acts", d.Acts(), acts)
			tells(t, what, s, p)
			away()
			for s.Stats().Work != 0 {
				works(t, s)
				works(t, twin)
				is(t, what, onDisk(t, d), onDisk(t, twin.disk))
			}
			tells(t, what, s, p)
			is(t, what, []any{s.Live(), s.after}, []any{twin.Live(), twin.after})
		}
	}
}

// P12.6, P12.9: a step in which the power goes.
func TestWorkDead(t *testing.T) {
	for step := range 4 {
		for act := 1; ; act++ {
			d, s, p := toStep(t, step)
			d.Arm(act)
			moved, err := s.Work()
			if err == api.OK {
				if act < 4 {
					t.Errorf("step %d has %d acts", step, act-1)
				}
				break
			}
			is(t, "Work", []any{moved, err}, []any{false, api.ErrDead})
			dead(t, fmt.Sprint("step ", step), s)
			for _, keep := range []bool{false, true} {
				d.Crash(slices.Repeat([]bool{keep}, 40), -1, 0)
				s, err = Open(d, example())
				must(t, "Open", err)
				tells(t, fmt.Sprint("step ", step, " act ", act, keep), s, p)
				for s.Stats().Work != 0 {
					works(t, s)
				}
				tells(t, fmt.Sprint("step ", step, " act ", act, keep), s, p)
			}
		}
	}
}

// P12.2: what a compaction wrote goes when it is cut off; it begins anew, and its numbers are taken anew.
func TestWorkForgetsCompaction(t *testing.T) {
	d, s, p := toStep(t, 3)
	names := namesOn(t, d)
	is(t, "names", slices.Contains(names, manifest.Table(7)), true)
	d.Crash(nil, -1, 0)
	s, err := Open(d, example())
	must(t, "Open", err)
	is(t, "names", slices.Contains(namesOn(t, d), manifest.Table(7)), false)
	is(t, "NEXT", s.books.next, uint64(8))
	tells(t, "behind Open", s, p)
	works(t, s)
	works(t, s)
	is(t, "names", slices.Contains(namesOn(t, d), manifest.Table(8)), true)
	works(t, s)
	is(t, "Tables", s.Stats().Tables, [api.Levels]int{0, 1})
	tells(t, "compacted", s, p)
}

// P12.6: a flush of more than a table takes is refused, and nothing else is (chapter 8: the index).
func TestWorkTableTooGreat(t *testing.T) {
	_, s := newStore(t, 4000, example())
	p := newPlain()
	for i := range 6 {
		var l []api.Put
		for k := range api.MaxBatch {
			l = append(l, put(strings.Repeat("\x00", 90)+fmt.Sprintf("%06d", i*api.MaxBatch+k), ""))
		}
		must(t, "Write", s.Write(l))
		p.write(l)
	}
	works(t, s)
	books, stats := s.books, s.Stats()
	moved, err := s.Work()
	is(t, "Work", []any{moved, err}, []any{false, api.ErrFull})
	is(t, "books", s.books, books)
	is(t, "Stats", s.Stats(), stats)
	must(t, "Write", s.Write([]api.Put{put("a", "b")}))
	p.write([]api.Put{put("a", "b")})
	tells(t, "too great", s, p)
}
