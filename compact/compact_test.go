package compact_test

import (
	"fmt"
	"math"
	"math/rand"
	"runtime"
	"slices"
	"testing"
	"time"

	"tapestry/api"
	"tapestry/compact"
	"tapestry/memtable"
	"tapestry/table"
)

// gets is a version that gives a key a value, del one that takes it out.
func gets(key string, seq uint64, value string) api.Version {
	return api.Version{Key: key, Seq: seq, Value: value}
}
func del(key string, seq uint64) api.Version { return api.Version{Key: key, Seq: seq, Del: true} }

// numbered are so many keys with a value each, each many behind the one ahead, from a number on.
func numbered(from, step, many int, seq uint64, value string) []api.Version {
	var l []api.Version
	for i := range many {
		l = append(l, gets(fmt.Sprintf("key %06d", from+i*step), seq, value))
	}
	return l
}

// open is a table of versions, in blocks of so many bytes.
func open(t *testing.T, block, bits int, l []api.Version) *table.Table {
	t.Helper()
	s, err := table.Build(block, bits, l)
	if err != api.OK {
		t.Fatalf("table.Build of %d versions: %d", len(l), err)
	}
	x, err := table.Open(s)
	if err != api.OK || x.Check() != api.OK {
		t.Fatalf("table.Open: %d", err)
	}
	return x
}

// opened is a table of each list.
func opened(t *testing.T, lists [][]api.Version) []*table.Table {
	t.Helper()
	var in []*table.Table
	for i, l := range lists {
		in = append(in, open(t, []int{64, 100, 4096, 256}[i%4], i%4*5, l))
	}
	return in
}

// goes is a job from a level, of so many tables of that, and of the next one.
func goes(level, from, to int, bottom bool) api.Job {
	return api.Job{Level: level, From: make([]api.Table, from), To: make([]api.Table, to), Bottom: bottom}
}

// told: what Next tells.
type told struct {
	bytes string
	table api.Table
}

// merged are all versions of lists, in order; of several of one place the first list's.
func merged(lists [][]api.Version) []api.Version {
	all := slices.Concat(lists...)
	slices.SortStableFunc(all, func(a, b api.Version) int {
		switch {
		case memtable.Less(a, b):
			return -1
		case memtable.Less(b, a):
			return 1
		}
		return 0
	})
	return slices.CompactFunc(all, func(a, b api.Version) bool { return a.Key == b.Key && a.Seq == b.Seq })
}

// grouped are the versions of each key, in order.
func grouped(l []api.Version) [][]api.Version {
	var groups [][]api.Version
	for i, v := range l {
		if i == 0 || l[i-1].Key != v.Key {
			groups = append(groups, nil)
		}
		groups[len(groups)-1] = append(groups[len(groups)-1], v)
	}
	return groups
}

// kept are the versions that somebody may still see.
func kept(l []api.Version, floors []uint64, bottom bool) []api.Version {
	var all []api.Version
	for _, group := range grouped(l) {
		var left []api.Version
		for i, v := range group {
			if i == 0 || slices.ContainsFunc(floors, func(f uint64) bool { return f >= v.Seq && f < group[i-1].Seq }) {
				left = append(left, v)
			}
		}
		for bottom && len(left) > 0 && left[len(left)-1].Del {
			left = left[:len(left)-1]
		}
		all = append(all, left...)
	}
	return all
}

// pieces are the lists of which a table is made each.
func pieces(l []api.Version, bytes int) [][]api.Version {
	var lists [][]api.Version
	size, ended := 0, true
	for _, group := range grouped(l) {
		if ended {
			lists, size = append(lists, nil), 0
		}
		for _, v := range group {
			size += len(v.Key) + len(v.Value) + 16
		}
		lists[len(lists)-1] = append(lists[len(lists)-1], group...)
		ended = size >= bytes
	}
	return lists
}

// writes is what a run of such a job is said to tell, of tables with these versions.
func writes(t *testing.T, c api.StoreConfig, j api.Job, lists [][]api.Version, floors []uint64) []told {
	t.Helper()
	var all []told
	for _, l := range pieces(kept(merged(lists), floors, j.Bottom), c.Table) {
		s, err := table.Build(c.Block, c.Bits, l)
		if err != api.OK {
			t.Fatalf("table.Build of %d versions: %d", len(l), err)
		}
		all = append(all, told{s, api.Table{Level: j.Level + 1, Size: len(s), Count: len(l), Least: l[0].Key, Greatest: l[len(l)-1].Key}})
	}
	return all
}

func begin(t *testing.T, c api.StoreConfig, j api.Job, in []*table.Table, floors []uint64) *compact.Run {
	t.Helper()
	r, err := compact.New(c, j, in, floors)
	if r == nil || err != api.OK {
		t.Fatalf("New: %v %d", r, err)
	}
	return r
}

// through is all that a run tells, up to its end.
func through(t *testing.T, r *compact.Run) []told {
	t.Helper()
	var all []told
	for len(all) < 1<<20 {
		s, x, ok := r.Next()
		if !ok {
			checkOver(t, s, x, ok)
			for range 3 {
				s, x, ok = r.Next()
				checkOver(t, s, x, ok)
			}
			return all
		}
		all = append(all, told{s, x})
	}
	t.Fatal("the run has no end")
	return nil
}

func checkOver(t *testing.T, s string, x api.Table, ok bool) {
	t.Helper()
	if s != "" || x != (api.Table{}) || ok {
		t.Errorf("Next behind the last table: %d bytes, %v, %t", len(s), x, ok)
	}
}

func checkTold(t *testing.T, what string, got, want []told) {
	t.Helper()
	if slices.Equal(got, want) {
		return
	}
	t.Errorf("%s: %d tables, want %d", what, len(got), len(want))
	for i := range min(len(got), len(want)) {
		if got[i] != want[i] {
			t.Errorf("%s: the table %d: %v, %d bytes, want %v, %d bytes, with others: %t", what, i, got[i].table, len(got[i].bytes), want[i].table, len(want[i].bytes), got[i].bytes != want[i].bytes)
			return
		}
	}
}

// checkRun goes through a run of tables with these versions, and asks it for what it is said to tell; the lists come from it.
func checkRun(t *testing.T, what string, c api.StoreConfig, j api.Job, lists [][]api.Version, floors []uint64) []told {
	t.Helper()
	got := through(t, begin(t, c, j, opened(t, lists), floors))
	checkTold(t, what, got, writes(t, c, j, lists, floors))
	return got
}

// versions are those of tables that were told, in their order.
func versions(t *testing.T, l []told) []api.Version {
	t.Helper()
	var all []api.Version
	for _, x := range l {
		o, err := table.Open(x.bytes)
		if err != api.OK || o.Check() != api.OK {
			t.Errorf("a table of %d bytes that was told: Open %d, or not as Check asks", len(x.bytes), err)
			continue
		}
		all = slices.AppendSeq(all, o.From(""))
	}
	return all
}

// checkLeft goes through a run, and asks for the versions that are left, a list for each table.
func checkLeft(t *testing.T, what string, c api.StoreConfig, j api.Job, lists [][]api.Version, floors []uint64, left ...[]api.Version) {
	t.Helper()
	got := checkRun(t, what, c, j, lists, floors)
	if len(got) != len(left) {
		t.Errorf("%s: %d tables, want %d", what, len(got), len(left))
		return
	}
	for i, l := range left {
		if v := versions(t, got[i:i+1]); !slices.Equal(v, l) {
			t.Errorf("%s: the table %d: %v, want %v", what, i, v, l)
		}
	}
}

func checkNotNew(t *testing.T, what string, c api.StoreConfig, j api.Job, in []*table.Table) {
	t.Helper()
	if r, err := compact.New(c, j, in, nil); r != nil || err != api.ErrArg {
		t.Errorf("%s: New: %v %d, want nothing, 1", what, r, err)
	}
}

// P11.3
func TestNewRefuses(t *testing.T) {
	x := open(t, 64, 10, []api.Version{gets("a", 1, "x")})
	in := []*table.Table{x, x, x}
	begin(t, config(), goes(0, 2, 1, false), in, nil)
	for _, c := range refused() {
		checkNotNew(t, "a configuration that may not be", c, goes(0, 2, 1, false), in)
		checkNotNew(t, "a configuration that may not be", c, goes(0, 0, 0, false), nil)
	}
	for _, level := range []int{math.MinInt, -1 << 32, -1, 3, 4, 1 << 32, math.MaxInt} {
		checkNotNew(t, "a level that has none below it", config(), goes(level, 2, 1, true), in)
		checkNotNew(t, "a level that has none below it", config(), goes(level, 0, 0, true), nil)
	}
	for from := range 5 {
		for to := range 5 {
			if from+to == 3 {
				begin(t, config(), goes(1, from, to, false), in, nil)
			} else {
				checkNotNew(t, "another count of tables", config(), goes(1, from, to, false), in)
			}
		}
	}
	checkNotNew(t, "no tables", config(), goes(1, 1, 0, false), nil)
	for i := range in {
		nils := slices.Clone(in)
		nils[i] = nil
		checkNotNew(t, "a table that is nil", config(), goes(0, 2, 1, false), nils)
	}
	checkNotNew(t, "a table that is nil", config(), goes(0, 1, 0, false), []*table.Table{nil})
	checkNotNew(t, "all of it", api.StoreConfig{}, goes(7, 1, 0, false), []*table.Table{nil, nil})
}

// P11.3: what a configuration may just be, and each of the three levels.
func TestNewTakes(t *testing.T) {
	lists := [][]api.Version{numbered(0, 2, 40, 9, "new"), numbered(0, 3, 30, 5, "old")}
	for _, c := range taken() {
		for level := range 3 {
			checkRun(t, fmt.Sprint(c, level), c, goes(level, 1, 1, level > 0), lists, []uint64{7})
		}
	}
}

// P11.3, P11.4: a run of no tables, and none at all.
func TestNextOfNothing(t *testing.T) {
	if got := through(t, begin(t, config(), goes(1, 0, 0, true), nil, []uint64{1})); len(got) != 0 {
		t.Errorf("a run of no tables: %d", len(got))
	}
	if got := through(t, begin(t, config(), goes(1, 0, 0, false), []*table.Table{}, nil)); len(got) != 0 {
		t.Errorf("a run of no tables: %d", len(got))
	}
	through(t, nil)
	through(t, new(compact.Run))
}

// P11.4: what is told of a table, and the bytes themselves.
func TestNext(t *testing.T) {
	lists := [][]api.Version{
		{gets("a", 9, "new"), del("c", 8)},
		{gets("a", 5, "old"), gets("b", 6, "stays"), gets("c", 7, "gone")},
		{gets("a", 1, "oldest"), gets("d", 2, "stays")},
	}
	for level := range 3 {
		checkLeft(t, "nobody looks back", config(), goes(level, 2, 1, false), lists, nil, []api.Version{gets("a", 9, "new"), gets("b", 6, "stays"), del("c", 8), gets("d", 2, "stays")})
		checkLeft(t, "nobody looks back, bottom", config(), goes(level, 2, 1, true), lists, nil, []api.Version{gets("a", 9, "new"), gets("b", 6, "stays"), gets("d", 2, "stays")})
	}
	checkLeft(t, "somebody at 7", config(), goes(0, 2, 1, true), lists, []uint64{7}, []api.Version{gets("a", 9, "new"), gets("a", 5, "old"), gets("b", 6, "stays"), del("c", 8), gets("c", 7, "gone"), gets("d", 2, "stays")})
	checkLeft(t, "somebody at 4 and 0", config(), goes(0, 2, 1, true), lists, []uint64{4, 0}, []api.Version{gets("a", 9, "new"), gets("a", 1, "oldest"), gets("b", 6, "stays"), gets("d", 2, "stays")})
	checkLeft(t, "somebody who sees the newest", config(), goes(0, 2, 1, false), lists, []uint64{9, 100, math.MaxUint64}, []api.Version{gets("a", 9, "new"), gets("b", 6, "stays"), del("c", 8), gets("d", 2, "stays")})
	r := begin(t, config(), goes(1, 1, 0, false), opened(t, lists[:1]), nil)
	s, x, ok := r.Next()
	if want, _ := table.Build(64, 10, lists[0]); s != want || x != (api.Table{Level: 2, Size: len(want), Count: 2, Least: "a", Greatest: "c"}) || !ok {
		t.Errorf("Next: %d bytes, %v, %t", len(s), x, ok)
	}
}

// P11.4: nothing is left of Dels at the bottom.
func TestNextLeavesNothing(t *testing.T) {
	lists := [][]api.Version{{del("a", 9), del("b", 9)}, {gets("a", 5, "x"), del("a", 3), gets("b", 4, "y")}}
	checkLeft(t, "nothing", config(), goes(0, 1, 1, true), lists, nil)
	checkLeft(t, "nothing, with somebody who sees none of it", config(), goes(0, 1, 1, true), lists, []uint64{2, 10, 9})
	checkLeft(t, "not at the bottom", config(), goes(0, 1, 1, false), lists, nil, []api.Version{del("a", 9), del("b", 9)})
	// As many Dels as some passes read, ahead of what stays, between it, and behind it.
	var dels []api.Version
	for i := range 15000 {
		dels = append(dels, del(fmt.Sprintf("key %06d", i), 9))
	}
	few := [][]api.Version{dels, {gets("key", 5, "x"), gets("key 004999", 5, of("y", 300)), gets("key 005000+", 5, "z"), gets("key 010000", 5, "gone"), gets("l", 5, "w")}}
	checkLeft(t, "many Dels", config(), goes(0, 1, 1, true), few, nil, []api.Version{gets("key", 5, "x"), gets("key 005000+", 5, "z"), gets("l", 5, "w")})
	few[1] = few[1][3:4]
	checkLeft(t, "many Dels, and nothing", config(), goes(0, 1, 1, true), few, nil)
}

// P11.4: of one place the first table's version counts, those of From ahead of those of To.
func TestNextOfOnePlace(t *testing.T) {
	lists := [][]api.Version{{gets("a", 5, "first"), gets("b", 5, "first")}, {gets("a", 5, "second"), del("c", 5), gets("d", 7, "second")}, {gets("b", 5, "third"), gets("c", 5, "third"), gets("d", 8, "third")}}
	left := []api.Version{gets("a", 5, "first"), gets("b", 5, "first"), del("c", 5), gets("d", 8, "third"), gets("d", 7, "second")}
	for from := range 4 {
		checkLeft(t, "one place", config(), goes(0, from, 3-from, false), lists, []uint64{7}, left)
	}
	x := open(t, 64, 10, lists[0])
	got := through(t, begin(t, config(), goes(0, 2, 1, false), []*table.Table{x, x, x}, nil))
	checkTold(t, "one table three times", got, writes(t, config(), goes(0, 1, 0, false), lists[:1], nil))
}

// P11.4: a table ends at the first key with which its versions have bytes enough, of what is left of them.
func TestNextCuts(t *testing.T) {
	for _, bytes := range []int{256, 300, 1000, 65536} {
		c := with(func(c *api.StoreConfig) { c.Table = bytes })
		for more := -1; more <= 1; more++ {
			values := bytes + more - 2*17 - 5*18 // each version counts for its key's bytes and 16, too
			l := []api.Version{gets("a", 5, "")}
			for i := range 5 {
				l = append(l, gets("b"+string(rune('0'+i)), 5, of("v", values/5)))
			}
			l[5].Value += of("v", values%5)
			l = append(l, gets("c", 5, ""))
			ends := gets("d", 5, "")
			all := append(slices.Clone(l), ends)
			want := [][]api.Version{l, {ends}}
			if more < 0 {
				want = [][]api.Version{all}
			}
			what := fmt.Sprintf("%d bytes and %d", bytes, more)
			checkLeft(t, what, c, goes(1, 1, 0, true), [][]api.Version{all}, nil, want...)
			// What isn't kept doesn't count.
			gone := []api.Version{gets("a", 1, of("v", 500)), del("aa", 2), gets("c", 2, of("v", 500))}
			checkLeft(t, what+", with others", c, goes(1, 1, 1, true), [][]api.Version{all, gone}, []uint64{9}, want...)
		}
	}
}

// P11.4: all versions of a key are in one table, be they as many as they may.
func TestNextKeepsKeysTogether(t *testing.T) {
	for _, many := range []int{2, 100, 4096, 10000} {
		var l, old []api.Version
		var floors []uint64
		for i := range many {
			seq := uint64(2*many - 2*i)
			l = append(l, gets("k", seq, "v"))
			old = append(old, gets("k", seq-1, "w"))
			floors = append(floors, seq-1, seq)
		}
		lists := [][]api.Version{append([]api.Version{gets("a", 1, of("v", 300))}, l...), append(old, gets("l", 1, ""))}
		got := checkRun(t, fmt.Sprint(many, " versions of one key"), config(), goes(0, 1, 1, false), lists, floors)
		if len(got) < 2 || len(got) > 3 || got[1].table.Count < 2*many || got[1].table.Least != "k" {
			t.Errorf("%d versions of one key: %d tables", many, len(got))
		}
	}
}

// P11.4: keys that lie as near to one another as can be, each in a table of its own.
func TestNextOfNearKeys(t *testing.T) {
	keys := []string{"\x00", "\x00\x00", "\x00\x01", "\x01", "a", "a\x00", "a\x00\x00", "a\x00\x00\x00", "a\x00\x01", "a\x01", "a\xff", "a\xff\xff", "b", of("b", 95), of("b", 95) + "\x00", of("b", 96), of("c", 95) + "\xff", "d", of("\xff", 95), of("\xff", 96)}
	var l [3][]api.Version
	for i, key := range keys {
		l[i%3] = append(l[i%3], gets(key, uint64(i+1), of("v", 256)))
		l[(i+1)%3] = append(l[(i+1)%3], gets(key, uint64(i+100), of("w", 256)))
	}
	for _, floors := range [][]uint64{nil, {50}} {
		got := checkRun(t, "near keys", config(), goes(1, 2, 1, true), l[:], floors)
		if len(got) != len(keys) {
			t.Errorf("near keys: %d tables, want %d", len(got), len(keys))
		}
	}
}

// P11.4: more versions than a pass reads, in few great tables and in many small ones.
func TestNextOfManyVersions(t *testing.T) {
	lists := [][]api.Version{numbered(0, 2, 6000, 9, "x"), numbered(1, 3, 3000, 7, of("y", 5)), numbered(0, 3, 3000, 6, of("z", 20)), numbered(9000, 1, 3000, 1, "")}
	for _, bytes := range []int{256, 1000, 65536} {
		for _, floors := range [][]uint64{nil, {8}, {6, 8}} {
			checkRun(t, "many versions", with(func(c *api.StoreConfig) { c.Table = bytes }), goes(0, 3, 1, len(floors) == 1), lists, floors)
		}
	}
	for many := 4090; many < 4102; many++ { // a table each, so a pass ends with any of them
		checkRun(t, fmt.Sprint(many, " versions"), with(func(c *api.StoreConfig) { c.Table = 65536 }), goes(0, 1, 0, false), [][]api.Version{numbered(0, 1, many, 9, "")}, nil)
	}
}

// P11.4: as many near keys as some passes read, so that one ends just ahead of a key that is as near as can be.
func TestNextOfManyNearKeys(t *testing.T) {
	var lists [10][]api.Version // one of all of them would have too great an index
	for i := range 100 {
		for zeros := range 92 {
			lists[zeros%10] = append(lists[zeros%10], gets(fmt.Sprintf("%04d", i)+of("\x00", zeros), 5, "v"))
		}
	}
	for _, bytes := range []int{256, 300, 65536} {
		checkRun(t, "many near keys", with(func(c *api.StoreConfig) { c.Table = bytes }), goes(1, 1, 9, true), lists[:], nil)
	}
}

// anyVersions are versions of few keys, no place twice, shared among lists.
func anyVersions(r *rand.Rand, lists, most int) [][]api.Version {
	var all []api.Version
	for range 1 + r.Intn(most) {
		v := gets(of(string(rune('a'+r.Intn(6))), 1+r.Intn(3)), 1+r.Uint64()%40, "")
		if v.Del = r.Intn(3) == 0; !v.Del {
			v.Value = of("v", r.Intn(120))
		}
		all = append(all, v)
	}
	l := make([][]api.Version, lists)
	for _, v := range merged([][]api.Version{all}) {
		i := r.Intn(lists)
		l[i] = append(l[i], v)
	}
	return slices.DeleteFunc(l, func(l []api.Version) bool { return len(l) == 0 })
}

// anyFloors are floors in any order, some of them twice.
func anyFloors(r *rand.Rand) []uint64 {
	var l []uint64
	for range r.Intn(5) {
		l = append(l, r.Uint64()%44)
	}
	return l
}

// anyConfig is a configuration that may be.
func anyConfig(r *rand.Rand) api.StoreConfig {
	return with(func(c *api.StoreConfig) {
		c.Block, c.Bits, c.Table = 64+r.Intn(300), r.Intn(21), 256+r.Intn(600)
	})
}

// P11.4
func TestNextOfAnyTables(t *testing.T) {
	r := rand.New(rand.NewSource(4))
	tried := map[int]int{}
	for i := range 3000 {
		lists := anyVersions(r, 1+r.Intn(5), 60)
		from := r.Intn(len(lists) + 1)
		j := goes(r.Intn(3), from, len(lists)-from, r.Intn(2) == 0)
		got := checkRun(t, fmt.Sprint("any tables, try ", i), anyConfig(r), j, lists, anyFloors(r))
		tried[min(len(got), 5)]++
	}
	for n := range 6 {
		if tried[n] < 10 {
			t.Errorf("runs of %d tables: %d", n, tried[n])
		}
	}
}

// P11.4, R1: of tables of which Check doesn't tell OK nothing is said, but that a run of them ends.
func TestNextOfBrokenTables(t *testing.T) {
	r := rand.New(rand.NewSource(3))
	good := open(t, 64, 10, numbered(0, 2, 60, 5, "good"))
	s, err := table.Build(64, 10, numbered(1, 2, 60, 7, "spoiled"))
	if err != api.OK {
		t.Fatalf("table.Build: %d", err)
	}
	opens := 0
	for range 3000 {
		b := []byte(s)
		for range 1 + r.Intn(3) {
			b[r.Intn(len(b))] ^= 1 << r.Intn(8)
		}
		x, err := table.Open(string(b))
		if err != api.OK {
			continue
		}
		opens++
		through(t, begin(t, config(), goes(0, 2, 1, r.Intn(2) == 0), []*table.Table{good, x, good}, []uint64{6}))
	}
	if opens < 1000 {
		t.Errorf("only %d tables could be opened", opens)
	}
	through(t, begin(t, config(), goes(0, 1, 0, true), []*table.Table{new(table.Table)}, nil))
}

// P11.4: there are no bytes of a list that Build refuses, so a run ends there.
func TestNextOfTooGreatAList(t *testing.T) {
	l := []api.Version{gets("a", 1, of("v", 300))}
	var floors []uint64
	for i := range uint64(4000) { // an index with a block for each of these doesn't fit into a frame
		l = append(l, gets(of("k", 96), 4000-i, ""))
		floors = append(floors, i+1)
	}
	l = append(l, gets("l", 1, "behind"))
	got := through(t, begin(t, config(), goes(1, 1, 0, true), []*table.Table{open(t, 4096, 10, l)}, floors))
	checkTold(t, "too great a list", got, writes(t, config(), goes(1, 1, 0, true), [][]api.Version{l[:1]}, nil))
	checkRun(t, "none of them needed", config(), goes(1, 1, 1, true), [][]api.Version{l[:1], {l[1], l[len(l)-1]}}, nil)
}

// R3: what was handed in may be changed behind New.
func TestNewKeepsNothing(t *testing.T) {
	lists := [][]api.Version{numbered(0, 2, 300, 9, "new"), numbered(0, 3, 200, 5, "old")}
	floors := slices.Grow([]uint64{7, 2}, 5)
	j := goes(1, 1, 1, true)
	want := writes(t, config(), j, lists, floors)
	in := slices.Grow(opened(t, lists), 5)
	first := in[0]
	r := begin(t, config(), j, in, floors)
	if in[0] != first || !slices.Equal(floors, []uint64{7, 2}) || !slices.Equal(j.From, make([]api.Table, 1)) {
		t.Error("New wrote into what was handed in")
	}
	clear(in[:cap(in)])
	clear(floors[:cap(floors)])
	j.From[0], j.To[0] = api.Table{Number: 666}, api.Table{Number: 666}
	checkTold(t, "what was handed in is changed", through(t, r), want)
	// Floors aren't put in order where they lie.
	in, floors = opened(t, lists), []uint64{9, 1, 7}
	through(t, begin(t, config(), j, in, floors))
	if !slices.Equal(floors, []uint64{9, 1, 7}) {
		t.Errorf("the floors: %v", floors)
	}
}

// R3: what is told may be spoiled, and the run goes on as ahead of that.
func TestNextIsNewMemory(t *testing.T) {
	lists := [][]api.Version{numbered(0, 2, 300, 9, "new"), numbered(0, 3, 200, 5, "old")}
	in := opened(t, lists)
	want := writes(t, config(), goes(1, 1, 1, true), lists, nil)
	for range 2 {
		r := begin(t, config(), goes(1, 1, 1, true), in, nil)
		for i, w := range want {
			s, x, ok := r.Next()
			if s != w.bytes || x != w.table || !ok {
				t.Fatalf("the table %d: %v %t, want %v", i, x, ok, w.table)
			}
			spoil(s)
			spoil(x.Least)
			spoil(x.Greatest)
		}
		s, x, ok := r.Next()
		checkOver(t, s, x, ok)
	}
	for i, x := range in {
		if x.Check() != api.OK || !slices.Equal(slices.Collect(x.From("")), lists[i]) {
			t.Errorf("the table %d was written into", i)
		}
	}
}

// R4: runs know nothing of one another, though they go through the same tables.
func TestRunsApart(t *testing.T) {
	lists := [][]api.Version{numbered(0, 2, 300, 9, "new"), numbered(0, 3, 200, 5, "old"), numbered(1, 4, 100, 2, "")}
	in := opened(t, lists)
	var runs []*compact.Run
	var got, want [3][]told
	for i := range want {
		floors := []uint64{uint64(3 * i)}
		runs = append(runs, begin(t, config(), goes(i, 1, 2, i == 1), in, floors))
		want[i] = writes(t, config(), goes(i, 1, 2, i == 1), lists, floors)
	}
	for range 1000 {
		for i, r := range runs {
			for range i + 1 {
				if s, x, ok := r.Next(); ok {
					got[i] = append(got[i], told{s, x})
				}
			}
			for range in[i].From("key 000100") {
				break
			}
		}
	}
	for i := range want {
		checkTold(t, fmt.Sprint("the run ", i), got[i], want[i])
	}
}

// Nothing goes on between the calls, and nothing is left behind by a run that isn't gone through.
func TestNextLeavesNoWorkers(t *testing.T) {
	in := opened(t, [][]api.Version{numbered(0, 2, 6000, 9, "new"), numbered(0, 3, 200, 5, "old")})
	before := runtime.NumGoroutine()
	for most := range 40 {
		r := begin(t, config(), goes(0, 2, 0, false), in, nil)
		for range most {
			r.Next()
		}
	}
	for wait := 0; runtime.NumGoroutine() > before && wait < 1000; wait++ { // the last one may just be ending
		time.Sleep(time.Millisecond)
	}
	if now := runtime.NumGoroutine(); now > before {
		t.Errorf("%d goroutines, want %d", now, before)
	}
}
