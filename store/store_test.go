package store

import (
	"fmt"
	"maps"
	"math"
	"reflect"
	"slices"
	"strings"
	"testing"

	"tapestry/api"
	"tapestry/block"
	"tapestry/files"
	"tapestry/manifest"
	"tapestry/memtable"
	"tapestry/wal"
)

func is(t *testing.T, what string, got, want any) {
	t.Helper()
	if !reflect.DeepEqual(got, want) {
		t.Errorf("%s: got %v, want %v", what, got, want)
	}
}

// must leaves the test, if something isn't answered OK.
func must(t *testing.T, what string, err api.Errno) {
	t.Helper()
	if err != api.OK {
		t.Fatalf("%s: %d", what, err)
	}
}

func newStore(t *testing.T, blocks int, c api.StoreConfig) (*block.Dev, *Store) {
	t.Helper()
	d, err := block.New(blocks)
	must(t, "New", err)
	s, err := Open(d, c)
	must(t, "Open", err)
	return d, s
}

// put is a put of a value, del one that takes a key out.
func put(key, value string) api.Put { return api.Put{Key: key, Value: value} }
func del(key string) api.Put        { return api.Put{Key: key, Del: true} }

// onDisk are all files of a disk, as a file system of its own finds them.
func onDisk(t *testing.T, d *block.Dev) map[string]string {
	t.Helper()
	fs, err := files.Open(d)
	must(t, "files.Open", err)
	m := map[string]string{}
	for _, name := range fs.Names() {
		m[name], _ = fs.Read(name, 0, math.MaxInt)
	}
	return m
}

func namesOn(t *testing.T, d *block.Dev) []string {
	t.Helper()
	return slices.Sorted(maps.Keys(onDisk(t, d)))
}

// diskOf is a disk with some files.
func diskOf(t *testing.T, blocks int, m map[string]string) *block.Dev {
	t.Helper()
	d, _ := block.New(blocks)
	fs, err := files.Open(d)
	must(t, "files.Open", err)
	for name, bytes := range m {
		must(t, "Create", fs.Create(name))
		fs.Append(name, bytes)
	}
	must(t, "Commit", fs.Commit())
	return d
}

func entry(t *testing.T, e api.Edit) string {
	t.Helper()
	s, err := manifest.Encode(e)
	must(t, "Encode", err)
	return s
}

func batch(t *testing.T, seq uint64, l ...api.Put) string {
	t.Helper()
	s, err := wal.Encode(api.Batch{Seq: seq, Puts: l})
	must(t, "Encode", err)
	return s
}

// P12.1
func TestCheck(t *testing.T) {
	least := api.StoreConfig{Mem: 64, Block: 64, Bits: 0, Table: 256, Files0: 1, Base: 256, Edits: 1}
	most := api.StoreConfig{Mem: 65536, Block: 4096, Bits: 20, Table: 65536, Files0: 8, Base: 1048576, Edits: 1000, Seed: math.MaxUint64}
	for _, c := range []api.StoreConfig{least, most, example()} {
		is(t, fmt.Sprint(c), Check(c), api.OK)
	}
	is(t, "noughts", Check(api.StoreConfig{}), api.ErrArg)
	for _, field := range []string{"Mem", "Block", "Bits", "Table", "Files0", "Base", "Edits"} {
		for _, bound := range []struct {
			c   api.StoreConfig
			add int64
		}{{least, -1}, {most, 1}, {least, math.MinInt64 / 2}, {most, math.MaxInt64 / 2}} {
			c := bound.c
			f := reflect.ValueOf(&c).Elem().FieldByName(field)
			f.SetInt(f.Int() + bound.add)
			is(t, fmt.Sprint(field, c), Check(c), api.ErrArg)
			d, _ := block.New(40)
			s, err := Open(d, c)
			is(t, "Open", []any{s, err, d.Acts()}, []any{(*Store)(nil), api.ErrArg, 0})
		}
	}
}

// P12.2: what may not be, and ahead of what.
func TestOpenRefuses(t *testing.T) {
	s, err := Open(nil, example())
	is(t, "nil", []any{s, err}, []any{(*Store)(nil), api.ErrArg})
	d, _ := block.New(40)
	d.Arm(1)
	d.Sync()
	s, err = Open(d, example())
	is(t, "down", []any{s, err}, []any{(*Store)(nil), api.ErrDead})
	s, err = Open(d, api.StoreConfig{})
	is(t, "down, and may not be", []any{s, err}, []any{(*Store)(nil), api.ErrArg})
}

// P12.2: a new store, byte by byte.
func TestOpenMakes(t *testing.T) {
	d, s := newStore(t, 40, example())
	is(t, "files", onDisk(t, d), map[string]string{
		"current":                   "manifest-0000000000000001",
		"log-0000000000000002":      "",
		"manifest-0000000000000001": entry(t, api.Edit{Next: 3, Log: 2}),
	})
	is(t, "acts", d.Acts(), 4+6)
	is(t, "Live", s.Live(), api.Live{Next: 3, Log: 2})
	is(t, "Stats", s.Stats(), api.StoreStats{Files: 3, Free: 6, Generation: 2})
	l, err := s.Scan("", "", 9)
	is(t, "Scan", []any{len(l), err}, []any{0, api.OK})
	again, err := Open(d, example())
	is(t, "Open again", []any{err, d.Acts()}, []any{api.OK, 10})
	is(t, "Stats again", again.Stats(), s.Stats())
	is(t, "NEXT", again.books.next, uint64(3))
}

// P12.2, P12.9: the power goes while a store is made; the next Open finds it whole, or makes it.
func TestOpenMakesUnderLosses(t *testing.T) {
	for act := 1; act <= 10; act++ {
		for _, keep := range [][]bool{nil, {true, true, true, true, true}, {false, true, false, true}} {
			for torn := -1; torn < 4; torn++ {
				d, _ := block.New(40)
				d.Arm(act)
				s, err := Open(d, example())
				is(t, "Open", []any{s, err}, []any{(*Store)(nil), api.ErrDead})
				d.Crash(keep, torn, 100)
				s, err = Open(d, example())
				must(t, fmt.Sprint("act ", act, keep, torn), err)
				must(t, "Write", s.Write([]api.Put{put("a", "b")}))
				is(t, "names", namesOn(t, d), []string{"current", "log-0000000000000002", "manifest-0000000000000001"})
			}
		}
	}
}

// wornDisk is one that a store may have left behind: with two logs that count, with files that nothing live has, and with numbers far apart.
func wornDisk(t *testing.T) *block.Dev {
	t.Helper()
	return diskOf(t, 200, map[string]string{
		"current":                   "manifest-0000000000000005",
		"manifest-0000000000000005": entry(t, api.Edit{Next: 6, Seq: 3, Log: 3}) + entry(t, api.Edit{Next: 7, Seq: 4, Log: 4}),
		"manifest-0000000000000001": "",
		"log-0000000000000003":      batch(t, 2, put("old", "old"), put("a", "old")),
		"log-0000000000000004":      batch(t, 5, put("a", "1"), put("b", "2")) + batch(t, 7, del("b")),
		"log-0000000000000010":      batch(t, 8, put("c", "3")),
		"table-0000000000000020":    "?",
	})
}

// P12.2: what is there is read: live tables, logs, numbers; what nothing live has goes.
func TestOpenReads(t *testing.T) {
	d := wornDisk(t)
	acts := d.Acts()
	s, err := Open(d, example())
	must(t, "Open", err)
	is(t, "acts", d.Acts(), acts+4)
	want := []string{"current", "log-0000000000000004", "log-0000000000000010", "manifest-0000000000000005"}
	is(t, "names", namesOn(t, d), want)
	is(t, "Live", s.Live(), api.Live{Next: 7, Seq: 4, Log: 4})
	is(t, "edits", s.books.edits, 2)
	l, err := s.Scan("", "", 9)
	is(t, "Scan", []any{l, err}, []any{[]api.Pair{{Key: "a", Value: "1"}, {Key: "c", Value: "3"}}, api.OK})
	st := s.Stats()
	is(t, "Stats", []any{st.Seq, st.Mem, st.Frozen, st.Snaps, st.Full, st.Work}, []any{uint64(8), 4, 0, 0, false, 1})
	for level := range api.MaxHeight {
		var high []api.Version
		for v := range s.mem.From("") {
			if memtable.Height(1, v.Seq) > level {
				high = append(high, v)
			}
		}
		is(t, fmt.Sprint("towers of level ", level), s.mem.Level(level), high)
	}
	// The next number is behind that of a file that is gone now.
	moved, err := s.Work()
	is(t, "Work", []any{moved, err}, []any{true, api.OK})
	is(t, "names", slices.Contains(namesOn(t, d), "log-0000000000000021"), true)
	must(t, "Write", s.Write([]api.Put{put("d", "4")}))
	is(t, "last log", onDisk(t, d)["log-0000000000000021"], batch(t, 9, put("d", "4")))
}

// P12.2: without such files there is no act; numbers go by what is left.
func TestOpenWithoutOrphans(t *testing.T) {
	d := wornDisk(t)
	_, err := Open(d, example())
	must(t, "Open", err)
	acts := d.Acts()
	s, err := Open(d, example())
	is(t, "Open", []any{err, d.Acts(), s.books.next}, []any{api.OK, acts, uint64(0x11)})
}

// P12.2: the Commit by which the orphans go.
func TestOpenReadsUnderLosses(t *testing.T) {
	for act := 1; act <= 4; act++ {
		for _, keep := range [][]bool{nil, {true, true}} {
			d := wornDisk(t)
			d.Arm(act)
			s, err := Open(d, example())
			is(t, "Open", []any{s, err}, []any{(*Store)(nil), api.ErrDead})
			d.Crash(keep, -1, 0)
			s, err = Open(d, example())
			must(t, "Open", err)
			is(t, "names", len(namesOn(t, d)), 4)
			v, ok, err := s.Get("a")
			is(t, "Get", []any{v, ok, err}, []any{"1", true, api.OK})
		}
	}
}

// P12.2: SEQ is LIVE's, where no log has a greater one; and a log of no bytes is one.
func TestOpenSeqOfLive(t *testing.T) {
	d := diskOf(t, 40, map[string]string{
		"current":                   "manifest-0000000000000001",
		"manifest-0000000000000001": entry(t, api.Edit{Next: 9, Seq: 77, Log: 2}),
		"log-0000000000000002":      "",
	})
	s, err := Open(d, example())
	must(t, "Open", err)
	is(t, "Seq", s.Stats().Seq, uint64(77))
	must(t, "Write", s.Write([]api.Put{put("a", "b")}))
	is(t, "log", onDisk(t, d)["log-0000000000000002"], batch(t, 78, put("a", "b")))
}

// P12.3: what may not be.
func TestWriteRefuses(t *testing.T) {
	d, s := newStore(t, 100, example())
	must(t, "Write", s.Write([]api.Put{put("a", "x")}))
	acts, stats := d.Acts(), s.Stats()
	great := slices.Repeat([]api.Put{put("k", strings.Repeat("v", api.MaxValue))}, 16)
	for what, l := range map[string][]api.Put{
		"no key":        {put("b", "y"), put("", "y")},
		"long key":      {put(strings.Repeat("k", 97), "y")},
		"long value":    {put("b", strings.Repeat("v", api.MaxValue+1))},
		"value of none": {{Key: "b", Value: "y", Del: true}},
		"many":          slices.Repeat([]api.Put{put("b", "y")}, 257),
		"great":         great,
	} {
		is(t, what, s.Write(l), api.ErrArg)
	}
	is(t, "none", s.Write(nil), api.OK)
	is(t, "none", s.Write([]api.Put{}), api.OK)
	is(t, "acts", d.Acts(), acts)
	is(t, "Stats", s.Stats(), stats)
	_, ok, _ := s.Get("b")
	is(t, "b", ok, false)
}

// P12.3: what is written, and in which order it counts.
func TestWrite(t *testing.T) {
	d, s := newStore(t, 2000, example())
	key, value := strings.Repeat("\xff", api.MaxKey), strings.Repeat("v", api.MaxValue)
	one := []api.Put{put("a", "1"), put("a", "2"), del("b"), put("b", ""), put(key, value), put("c", "3"), del("c")}
	must(t, "Write", s.Write(one))
	must(t, "Write", s.Write([]api.Put{put("a", "4")}))
	is(t, "log", onDisk(t, d)["log-0000000000000002"], batch(t, 1, one...)+batch(t, 8, put("a", "4")))
	st := s.Stats()
	is(t, "Seq, Mem", []any{st.Seq, st.Mem}, []any{uint64(8), 8})
	l, err := s.Scan("", "", 99)
	is(t, "Scan", []any{l, err}, []any{[]api.Pair{{Key: "a", Value: "4"}, {Key: "b"}, {Key: key, Value: value}}, api.OK})
	for level := range api.MaxHeight {
		for _, v := range s.mem.Level(level) {
			is(t, "tower", memtable.Height(1, v.Seq) > level, true)
		}
	}
	must(t, "most puts", s.Write(slices.Repeat([]api.Put{put("m", "v")}, api.MaxBatch)))
	is(t, "Seq", s.Stats().Seq, uint64(8+api.MaxBatch))
}

// P12.3: sequence numbers end.
func TestWriteSeqEnds(t *testing.T) {
	d := diskOf(t, 60, map[string]string{
		"current":                   "manifest-0000000000000001",
		"manifest-0000000000000001": entry(t, api.Edit{Next: 9, Seq: api.MaxSeq - 3, Log: 2}),
		"log-0000000000000002":      "",
	})
	s, err := Open(d, example())
	must(t, "Open", err)
	acts := d.Acts()
	four := []api.Put{put("a", "1"), put("b", "2"), put("c", "3"), put("d", "4")}
	is(t, "four", []any{s.Write(four), s.Stats().Full, s.Stats().Seq, d.Acts()}, []any{api.ErrFull, true, uint64(api.MaxSeq - 3), acts})
	is(t, "none", []any{s.Write(nil), s.Stats().Full}, []any{api.OK, true})
	is(t, "may not be", []any{s.Write([]api.Put{{}}), s.Stats().Full}, []any{api.ErrArg, true})
	is(t, "three", []any{s.Write(four[:3]), s.Stats().Full, s.Stats().Seq}, []any{api.OK, false, uint64(api.MaxSeq)})
	is(t, "one", []any{s.Write(four[:1]), s.Write(nil)}, []any{api.ErrFull, api.OK})
	s, err = Open(d, example())
	must(t, "Open", err)
	v, ok, err := s.Get("c")
	is(t, "Get", []any{v, ok, err}, []any{"3", true, api.OK})
	is(t, "not full any more", s.Stats().Full, false)
}

// P12.3, P12.10: a disk without room: nothing changes, and all looks go on; the next one that fits is written.
func TestWriteFull(t *testing.T) {
	d, s := newStore(t, 44, example())
	p := newPlain()
	write := func(l ...api.Put) api.Errno {
		err := s.Write(l)
		if err == api.OK {
			p.write(l)
		}
		return err
	}
	is(t, "fits", write(put("a", strings.Repeat("x", 500))), api.OK)
	before, files, acts := s.Stats(), onDisk(t, d), d.Acts()
	is(t, "does not", write(put("a", "y"), put("b", strings.Repeat("x", 3000))), api.ErrFull)
	after := s.Stats()
	is(t, "Full", after.Full, true)
	after.Full = false
	is(t, "Stats", after, before)
	is(t, "acts", d.Acts(), acts)
	is(t, "files", onDisk(t, d), files)
	tells(t, "full", s, p)
	is(t, "fits", write(put("c", "z")), api.OK)
	is(t, "Full", s.Stats().Full, false)
	tells(t, "not full", s, p)
	for write(put("q", strings.Repeat("x", 100))) == api.OK {
	}
	tells(t, "full", s, p)
	is(t, "Full", s.Stats().Full, true)
	s, err := Open(d, example())
	must(t, "Open", err)
	tells(t, "opened", s, p)
}

// P12.3: what is handed in is neither changed nor kept.
func TestWriteKeepsNothing(t *testing.T) {
	_, s := newStore(t, 100, example())
	l := []api.Put{put("a", "1"), del("b")}
	must(t, "Write", s.Write(l))
	is(t, "handed in", l, []api.Put{put("a", "1"), del("b")})
	l[0], l[1] = put("q", "q"), put("r", "r")
	got, _ := s.Scan("", "", 9)
	is(t, "Scan", got, []api.Pair{{Key: "a", Value: "1"}})
	got[0].Value = "spoilt"
	got = append(got, api.Pair{})
	again, _ := s.Scan("", "", 9)
	is(t, "Scan", again, []api.Pair{{Key: "a", Value: "1"}})
}
