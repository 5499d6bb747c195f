package store

import (
	"slices"
	"strings"

	"tapestry/api"
	"tapestry/compact"
	"tapestry/manifest"
	"tapestry/memtable"
	"tapestry/merge"
	"tapestry/table"
	"tapestry/wal"
)

// task is what is to be done next.
type task int

const (
	nothing task = iota
	toFlush
	toFreeze
	toGoOn // with the compaction that is under way
	toBegin
)

// compaction is one that is under way.
type compaction struct {
	job     api.Job
	run     *compact.Run
	written []api.Table
	// What the run told last. It tells that once, so it stays here till it is written: that may be refused.
	bytes string
	next  api.Table
	more  bool // false: it has told all
}

// Work makes one step of a flush or a compaction; false: there is nothing to do.
func (s *Store) Work() (bool, api.Errno) {
	if err := s.refusal(); err != api.OK {
		return false, err
	}
	err := api.OK
	what, job := s.due()
	switch what {
	case nothing:
		return false, api.OK
	case toFlush:
		err = s.flush()
	case toFreeze:
		err = s.freeze()
	case toGoOn:
		err = s.goOn()
	case toBegin:
		err = s.begin(job)
	}
	return err == api.OK, err
}

// due is what is to be done next; the job, of a compaction that is to begin.
func (s *Store) due() (task, api.Job) {
	switch {
	case s.frozen != nil:
		return toFlush, api.Job{}
	case s.mem.Bytes() >= s.config.Mem:
		return toFreeze, api.Job{}
	case s.underway != nil:
		return toGoOn, api.Job{}
	}
	if job, ok := compact.Pick(s.config, s.books.live, s.after); ok {
		return toBegin, job
	}
	return nothing, api.Job{}
}

// flush writes the frozen memtable into a table, so that its logs are needed no more.
func (s *Store) flush() api.Errno {
	l := slices.Collect(merge.Keep(s.frozen.From(""), s.floors(), false))
	bytes, err := table.Build(s.config.Block, s.config.Bits, l)
	if err != api.OK {
		return known(err)
	}
	err = s.change(func(d *draft) {
		t := api.Table{Number: d.take(), Size: len(bytes), Count: len(l), Least: l[0].Key, Greatest: l[len(l)-1].Key}
		d.create(manifest.Table(t.Number), bytes)
		d.edit(api.Edit{Next: d.next, Seq: max(greatest(l), d.live.Seq), Log: d.log, Add: []api.Table{t}}, s.config.Edits)
		d.deleteLogs()
	})
	if err == api.OK {
		s.frozen = nil
	}
	return err
}

// greatest is the greatest sequence number of versions.
func greatest(l []api.Version) uint64 {
	seq := uint64(0)
	for _, v := range l {
		seq = max(seq, v.Seq)
	}
	return seq
}

// deleteLogs takes all logs away but the last one.
func (d *draft) deleteLogs() {
	for _, name := range d.fs.Names() {
		if n, ok := wal.Number(name); ok && n < d.log {
			d.delete(name)
		}
	}
}

// freeze makes the memtable the frozen one: what comes from now on is written into a log of its own.
func (s *Store) freeze() api.Errno {
	err := s.change(func(d *draft) {
		d.log = d.take()
		d.create(wal.Name(d.log), "")
	})
	if err == api.OK {
		s.mem, s.frozen = memtable.New(), s.mem
	}
	return err
}

// begin begins a compaction.
func (s *Store) begin(job api.Job) api.Errno {
	var in []*table.Table
	for _, t := range slices.Concat(job.From, job.To) {
		t, err := s.table(t.Number)
		if err != api.OK {
			return err
		}
		in = append(in, t)
	}
	run, err := compact.New(s.config, job, in, s.floors())
	if err != api.OK {
		return known(err)
	}
	s.underway = &compaction{job: job, run: run}
	s.underway.ask()
	return api.OK
}

// ask takes the next table from the run.
func (c *compaction) ask() { c.bytes, c.next, c.more = c.run.Next() }

// goOn writes the next table of the compaction, or, behind the last one, what it makes of the levels.
func (s *Store) goOn() api.Errno {
	if !s.underway.more {
		return s.finish()
	}
	c := s.underway
	t := c.next
	err := s.change(func(d *draft) {
		t.Number = d.take()
		d.create(manifest.Table(t.Number), c.bytes)
	})
	if err == api.OK {
		c.written = append(c.written, t)
		c.ask()
	}
	return err
}

// finish puts the tables that the compaction wrote in the place of those that it read.
func (s *Store) finish() api.Errno {
	job, gone := s.underway.job, []uint64(nil)
	for _, t := range slices.Concat(job.From, job.To) {
		gone = append(gone, t.Number)
	}
	err := s.change(func(d *draft) {
		d.edit(api.Edit{Next: d.next, Seq: d.live.Seq, Log: d.live.Log, Add: s.underway.written, Drop: gone}, s.config.Edits)
		for _, n := range gone {
			d.delete(manifest.Table(n))
		}
	})
	if err != api.OK {
		return err
	}
	for _, n := range gone {
		delete(s.opened, n)
	}
	last := slices.MaxFunc(job.From, func(a, b api.Table) int { return strings.Compare(a.Greatest, b.Greatest) })
	s.after[job.Level] = last.Greatest
	s.underway = nil
	return api.OK
}
