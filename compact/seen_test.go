package compact_test

import (
	"fmt"
	"maps"
	"math"
	"math/rand"
	"slices"
	"testing"

	"tapestry/api"
	"tapestry/compact"
	"tapestry/manifest"
	"tapestry/table"
)

// seen is what is seen at a sequence number, of all versions of lists.
func seen(seq uint64, lists ...[]api.Version) map[string]string {
	values := map[string]string{}
	for _, group := range grouped(merged(lists)) {
		for _, v := range group {
			if v.Seq <= seq {
				if !v.Del {
					values[v.Key] = v.Value
				}
				break
			}
		}
	}
	return values
}

// checkApart asks whether tables rise, none reaching as far as the next one, and whether what is said of them is so.
func checkApart(t *testing.T, what string, l []told, level int) {
	t.Helper()
	for i, x := range l {
		o, err := table.Open(x.bytes)
		if err != api.OK || o.Check() != api.OK {
			t.Errorf("%s: the table %d: Open: %d, or not as Check asks", what, i, err)
			continue
		}
		least, greatest, count := o.Bounds()
		if want := (api.Table{Level: level, Size: len(x.bytes), Count: count, Least: least, Greatest: greatest}); x.table != want {
			t.Errorf("%s: the table %d: %v, want %v", what, i, x.table, want)
		}
		if i > 0 && l[i-1].table.Greatest >= least {
			t.Errorf("%s: the table %d begins at %q, the one ahead ends at %q", what, i, least, l[i-1].table.Greatest)
		}
	}
}

// older are versions of the same keys, and of others, with sequence numbers below all of some lists' own (which are raised for that).
func older(r *rand.Rand, lists [][]api.Version) []api.Version {
	for _, l := range lists {
		for i := range l {
			l[i].Seq += 100
		}
	}
	return merged(anyVersions(r, 1, 40))
}

// P11.5
func TestWhatIsSeenStays(t *testing.T) {
	r := rand.New(rand.NewSource(5))
	for i := range 2000 {
		what := fmt.Sprint("try ", i)
		lists := anyVersions(r, 1+r.Intn(5), 60)
		bottom := r.Intn(2) == 0
		var deeper []api.Version
		if !bottom {
			deeper = older(r, lists)
		}
		var floors []uint64
		for range r.Intn(5) {
			floors = append(floors, r.Uint64()%144)
		}
		j := goes(r.Intn(3), len(lists), 0, bottom)
		got := through(t, begin(t, anyConfig(r), j, opened(t, lists), floors))
		checkApart(t, what, got, j.Level+1)
		left := versions(t, got)
		for _, seq := range append(floors, 200, api.MaxSeq, math.MaxUint64) {
			if a, b := seen(seq, left, deeper), seen(seq, append(lists, deeper)...); !maps.Equal(a, b) {
				t.Errorf("%s: at %d of %v, bottom %t: %v, want %v", what, seq, floors, bottom, a, b)
			}
		}
	}
}

// stand is a store's part that matters here: tables that are live, their versions, what was put, and what it was at each snapshot.
type stand struct {
	t      *testing.T
	c      api.StoreConfig
	live   api.Live
	after  [api.Levels]string
	tables map[uint64]*table.Table
	values map[string]string
	snaps  map[uint64]map[string]string
	jobs   [api.Levels]int
}

func newStand(t *testing.T, c api.StoreConfig) *stand {
	return &stand{t: t, c: c, live: api.Live{Next: 1}, tables: map[uint64]*table.Table{}, values: map[string]string{}, snaps: map[uint64]map[string]string{}}
}

// keep takes a number for a table, which is live from the next edit on.
func (s *stand) keep(bytes string, x api.Table) api.Table {
	o, err := table.Open(bytes)
	if err != api.OK {
		s.t.Fatalf("table.Open: %d", err)
	}
	x.Number = s.live.Next
	s.live.Next++
	s.tables[x.Number] = o
	return x
}

// apply does an edit: chapter 10 takes it only if no two tables of a level overlap then.
func (s *stand) apply(add []api.Table, drop []uint64) {
	l, err := manifest.Apply(s.live, api.Edit{Next: s.live.Next, Seq: s.live.Seq, Log: s.live.Log, Add: add, Drop: drop})
	if err != api.OK {
		s.t.Fatalf("manifest.Apply of %v, %v: %d", add, drop, err)
	}
	s.live = l
}

// flush puts keys and values, and makes a table of level 0 of them.
func (s *stand) flush(puts []api.Put) {
	var l []api.Version
	for _, p := range puts {
		s.live.Seq++
		l = append(l, api.Version{Key: p.Key, Seq: s.live.Seq, Del: p.Del, Value: p.Value})
		if s.values[p.Key] = p.Value; p.Del {
			delete(s.values, p.Key)
		}
	}
	l = kept(merged([][]api.Version{l}), slices.Collect(maps.Keys(s.snaps)), false)
	bytes, err := table.Build(s.c.Block, s.c.Bits, l)
	if err != api.OK {
		s.t.Fatalf("table.Build: %d", err)
	}
	s.apply([]api.Table{s.keep(bytes, api.Table{Size: len(bytes), Count: len(l), Least: l[0].Key, Greatest: l[len(l)-1].Key})}, nil)
}

// compact does the compaction that is due; false: none is.
func (s *stand) compact() bool {
	j, ok := compact.Pick(s.c, s.live, s.after)
	if !ok {
		return false
	}
	var in []*table.Table
	var drop []uint64
	for _, x := range slices.Concat(j.From, j.To) {
		in, drop = append(in, s.tables[x.Number]), append(drop, x.Number)
	}
	var add []api.Table
	for _, x := range through(s.t, begin(s.t, s.c, j, in, slices.Sorted(maps.Keys(s.snaps)))) {
		add = append(add, s.keep(x.bytes, x.table))
	}
	s.apply(add, drop)
	s.after[j.Level] = extent(j.From).Greatest
	s.jobs[j.Level]++
	return true
}

// check asks for what is seen now, and at each snapshot.
func (s *stand) check() {
	var lists [][]api.Version
	for _, l := range s.live.Tables {
		for _, x := range l {
			lists = append(lists, slices.Collect(s.tables[x.Number].From("")))
		}
	}
	if got := seen(s.live.Seq, lists...); !maps.Equal(got, s.values) {
		s.t.Fatalf("now: %d keys, want %d", len(got), len(s.values))
	}
	for seq, values := range s.snaps {
		if got := seen(seq, lists...); !maps.Equal(got, values) {
			s.t.Fatalf("at %d: %d keys, want %d", seq, len(got), len(values))
		}
	}
}

// P11.2, P11.4, P11.5: levels on levels, while snapshots come and go: a plain map sees the same, and what is due comes to an end.
func TestLevelsGoDown(t *testing.T) {
	r := rand.New(rand.NewSource(2))
	for try := range 6 {
		s := newStand(t, with(func(c *api.StoreConfig) { c.Files0, c.Base, c.Block = 1+try%3, 256+40*try, 64+40*try }))
		for range 60 {
			var puts []api.Put
			for range 1 + r.Intn(30) {
				p := api.Put{Key: fmt.Sprintf("key %03d", r.Intn(150)), Value: of("v", r.Intn(30))}
				if p.Del = r.Intn(3) == 0; p.Del {
					p.Value = ""
				}
				puts = append(puts, p)
			}
			s.flush(puts)
			switch r.Intn(4) {
			case 0:
				s.snaps[s.live.Seq] = maps.Clone(s.values)
			case 1:
				clear(s.snaps)
			}
			for steps := 0; s.compact(); steps++ {
				s.check()
				if steps > 200 {
					t.Fatal("there is always something due")
				}
			}
			s.check()
		}
		for level := range 3 {
			if s.jobs[level] < 5 {
				t.Errorf("try %d: only %d compactions of level %d", try, s.jobs[level], level)
			}
		}
	}
}
