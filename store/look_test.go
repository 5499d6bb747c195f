package store

import (
	"fmt"
	"math"
	"strings"
	"testing"

	"tapestry/api"
	"tapestry/block"
)

// spread is a store whose versions lie everywhere: in the memtable, in a frozen one, in tables of several levels.
func spread(t *testing.T) (*Store, *plain) {
	t.Helper()
	c := example()
	c.Base = 1024
	_, s := newStore(t, 2000, c)
	p := newPlain()
	write := func(l ...api.Put) {
		must(t, "Write", s.Write(l))
		p.write(l)
	}
	for i := range 120 {
		write(put(fmt.Sprintf("k%02d", i*7%40), fmt.Sprint("value ", i)), put("same", fmt.Sprint(i)))
		if i%3 == 0 {
			write(del(fmt.Sprintf("k%02d", i*11%40)))
		}
		if i == 60 {
			n, err := s.Snap()
			must(t, "Snap", err)
			m := newPlain()
			for k, v := range p.now {
				m.now[k] = v
			}
			p.snaps[n] = m.now
		}
		s.Work()
		s.Work()
	}
	for s.Stats().Work != 0 {
		s.Work()
	}
	write(put("k01", "flushed"), put("k02", "flushed"), put("x", "flushed"), put("lone", "flushed"))
	s.Work()
	s.Work()
	write(put("k02", "frozen"), del("k03"), put("x", "frozen"), put("z", "frozen"))
	s.Work()
	write(put("x", "memory"), del("z"), put("zz", "memory"))
	st := s.Stats()
	if st.Mem == 0 || st.Frozen == 0 || st.Tables[0] == 0 || st.Tables[1] == 0 || st.Tables[2] == 0 {
		t.Fatal("not spread: ", st)
	}
	return s, p
}

// P12.4, P12.5: of all origins the newest version up to the sequence number.
func TestLooksAtAllOrigins(t *testing.T) {
	s, p := spread(t)
	tells(t, "spread", s, p)
	for key, want := range map[string]string{"x": "memory", "zz": "memory", "k02": "frozen", "k01": "flushed", "lone": "flushed", "same": "119"} {
		v, ok, err := s.Get(key)
		is(t, key, []any{v, ok, err}, []any{want, true, api.OK})
	}
	for _, key := range []string{"", "z", "k03", "k", "k010", "zzz", strings.Repeat("k", 200)} {
		v, ok, err := s.Get(key)
		is(t, key, []any{v, ok, err}, []any{"", false, api.OK})
		v, ok, err = s.GetAt(1, key)
		want, there := p.snaps[1][key]
		is(t, key, []any{v, ok, err}, []any{want, there, api.OK})
	}
	v, ok, err := s.GetAt(1, "same")
	is(t, "at 1", []any{v, ok, err}, []any{"60", true, api.OK})
}

// P12.4: where a Scan begins and ends, and how many it tells.
func TestScanBounds(t *testing.T) {
	s, p := spread(t)
	bounds := []string{"", "\x00", "k", "k00", "k05", "k05\x00", "k39", "l", "same", "x", "zz", "zz\x00", "\xff"}
	for _, lo := range bounds {
		for _, hi := range bounds {
			for _, most := range []int{0, 1, 2, 7, math.MaxInt} {
				what := fmt.Sprintf("%q %q %d", lo, hi, most)
				l, err := s.Scan(lo, hi, most)
				is(t, what, []any{brief(l), err}, []any{brief(scanPlain(p.now, lo, hi, most)), api.OK})
				l, err = s.ScanAt(1, lo, hi, most)
				is(t, what, []any{brief(l), err}, []any{brief(scanPlain(p.snaps[1], lo, hi, most)), api.OK})
			}
		}
	}
	for _, most := range []int{-1, math.MinInt} {
		l, err := s.Scan("", "", most)
		is(t, "Scan", []any{len(l), err}, []any{0, api.ErrArg})
		l, err = s.ScanAt(1, "", "", most)
		is(t, "ScanAt", []any{len(l), err}, []any{0, api.ErrArg})
		l, err = s.ScanAt(99, "", "", most)
		is(t, "ScanAt, no snapshot", []any{len(l), err}, []any{0, api.ErrArg})
	}
}

// P12.4: looks make no act.
func TestLooksMakeNoAct(t *testing.T) {
	s, _ := spread(t)
	acts := s.disk.Acts()
	s.Get("x")
	s.Scan("", "", 9)
	s.Snap()
	s.GetAt(1, "x")
	s.ScanAt(1, "", "", 9)
	s.Release(2)
	s.Live()
	s.Stats()
	is(t, "acts", s.disk.Acts(), acts)
}

// P12.5: how many snapshots, and their numbers.
func TestSnapNumbers(t *testing.T) {
	d, s := newStore(t, 60, example())
	for i := range uint64(api.MaxSnaps) {
		n, err := s.Snap()
		is(t, "Snap", []any{n, err}, []any{i + 1, api.OK})
	}
	n, err := s.Snap()
	is(t, "one more", []any{n, err, s.Stats().Snaps}, []any{uint64(0), api.ErrFull, api.MaxSnaps})
	for _, n := range []uint64{0, 17, math.MaxUint64} {
		is(t, "Release", s.Release(n), api.ErrSnap)
	}
	is(t, "Release", []any{s.Release(5), s.Release(5), s.Stats().Snaps}, []any{api.OK, api.ErrSnap, api.MaxSnaps - 1})
	n, err = s.Snap()
	is(t, "Snap", []any{n, err}, []any{uint64(17), api.OK})
	is(t, "Release", []any{s.Release(17), s.Release(16)}, []any{api.OK, api.OK})
	n, err = s.Snap()
	is(t, "Snap", []any{n, err}, []any{uint64(18), api.OK})
	for _, n := range []uint64{0, 5, 16, 17, 19} {
		v, ok, err := s.GetAt(n, "a")
		is(t, "GetAt", []any{v, ok, err}, []any{"", false, api.ErrSnap})
		l, err := s.ScanAt(n, "", "", 1)
		is(t, "ScanAt", []any{len(l), err}, []any{0, api.ErrSnap})
	}
	s, err = Open(d, example())
	must(t, "Open", err)
	is(t, "behind Open", []any{s.Release(1), s.Stats().Snaps}, []any{api.ErrSnap, 0})
	n, err = s.Snap()
	is(t, "behind Open", []any{n, err}, []any{uint64(1), api.OK})
}

// P12.5, P12.6: snapshots see what was, through flushes and compactions, till they are let go of; then what they alone saw goes.
func TestSnapshotsOutliveWork(t *testing.T) {
	_, s := newStore(t, 1000, example())
	var snaps []uint64
	for i := range 10 {
		must(t, "Write", s.Write([]api.Put{put("a", fmt.Sprint("value ", i)), put("b", strings.Repeat("b", 60))}))
		if i == 5 {
			must(t, "Write", s.Write([]api.Put{del("a")}))
		}
		n, err := s.Snap()
		must(t, "Snap", err)
		snaps = append(snaps, n)
		for s.Stats().Work != 0 {
			s.Work()
		}
	}
	for i, n := range snaps {
		v, ok, err := s.GetAt(n, "a")
		want := []any{fmt.Sprint("value ", i), true, api.OK}
		if i == 5 {
			want = []any{"", false, api.OK}
		}
		is(t, fmt.Sprint("snap ", i), []any{v, ok, err}, want)
	}
	count := func() int {
		n := 0
		for _, list := range s.Live().Tables {
			for _, t := range list {
				n += t.Count
			}
		}
		return n
	}
	if count() < 20 {
		t.Error("what a snapshot sees is gone:", count())
	}
	for _, n := range snaps {
		must(t, "Release", s.Release(n))
	}
	for range 2 {
		must(t, "Write", s.Write([]api.Put{put("a", "end"), put("b", strings.Repeat("b", 2000))}))
		for s.Stats().Work != 0 {
			s.Work()
		}
	}
	if count() > 6 {
		t.Error("what nobody sees is kept:", count())
	}
}

// P12.2 to P12.7, R1: no call panics on a store that is none.
func TestNilStore(t *testing.T) {
	var s *Store
	v, ok, err := s.Get("a")
	is(t, "Get", []any{v, ok, err}, []any{"", false, api.ErrArg})
	l, err := s.Scan("", "", 1)
	is(t, "Scan", []any{len(l), err}, []any{0, api.ErrArg})
	v, ok, err = s.GetAt(1, "a")
	is(t, "GetAt", []any{v, ok, err}, []any{"", false, api.ErrArg})
	l, err = s.ScanAt(1, "", "", 1)
	is(t, "ScanAt", []any{len(l), err}, []any{0, api.ErrArg})
	n, err := s.Snap()
	is(t, "Snap", []any{n, err}, []any{uint64(0), api.ErrArg})
	moved, err := s.Work()
	is(t, "Work", []any{moved, err}, []any{false, api.ErrArg})
	is(t, "others", []any{s.Write(nil), s.Write([]api.Put{put("a", "b")}), s.Release(1)}, []any{api.ErrArg, api.ErrArg, api.ErrArg})
	is(t, "Live", s.Live(), api.Live{})
	is(t, "Stats", s.Stats(), api.StoreStats{})
}

// dead holds a store's answers against those of one that is dead.
func dead(t *testing.T, what string, s *Store) {
	t.Helper()
	v, ok, err := s.Get("a")
	is(t, what+" Get", []any{v, ok, err}, []any{"", false, api.ErrDead})
	l, err := s.Scan("", "", 1)
	is(t, what+" Scan", []any{len(l), err}, []any{0, api.ErrDead})
	l, err = s.Scan("", "", -1)
	is(t, what+" Scan", []any{len(l), err}, []any{0, api.ErrArg})
	for _, n := range []uint64{1, 99} {
		v, ok, err = s.GetAt(n, "a")
		is(t, what+" GetAt", []any{v, ok, err}, []any{"", false, api.ErrDead})
		l, err = s.ScanAt(n, "", "", 1)
		is(t, what+" ScanAt", []any{len(l), err}, []any{0, api.ErrDead})
		l, err = s.ScanAt(n, "", "", -1)
		is(t, what+" ScanAt", []any{len(l), err}, []any{0, api.ErrArg})
		is(t, what+" Release", s.Release(n), api.ErrDead)
	}
	n, err := s.Snap()
	is(t, what+" Snap", []any{n, err}, []any{uint64(0), api.ErrDead})
	moved, err := s.Work()
	is(t, what+" Work", []any{moved, err}, []any{false, api.ErrDead})
	is(t, what+" Write", []any{s.Write(nil), s.Write([]api.Put{put("a", "b")}), s.Write([]api.Put{{}})}, []any{api.ErrDead, api.ErrDead, api.ErrArg})
	is(t, what+" Live", s.Live(), api.Live{})
	is(t, what+" Stats", s.Stats(), api.StoreStats{})
}

// A store is dead when its disk is down, or was Crashed since it was opened; that is asked ahead of all but ErrArg.
func TestDead(t *testing.T) {
	for _, what := range []string{"down", "crashed", "down and crashed"} {
		d, s := newStore(t, 60, example())
		must(t, "Write", s.Write([]api.Put{put("a", "1")}))
		s.Snap()
		if what != "crashed" {
			d.Arm(1)
			is(t, "Write", s.Write([]api.Put{put("a", "2")}), api.ErrDead)
			dead(t, what, s)
		}
		if what != "down" {
			d.Crash(nil, -1, 0)
			dead(t, what, s)
			other, err := Open(d, example())
			must(t, "Open", err)
			dead(t, what, s)
			v, ok, err := other.Get("a")
			is(t, "Get", []any{v, ok, err}, []any{"1", true, api.OK})
		}
	}
}

// P12.7: Stats, thing by thing.
func TestStats(t *testing.T) {
	_, s := newStore(t, 64, example())
	must(t, "Write", s.Write([]api.Put{put("a", "x"), put("b", "y")}))
	is(t, "written", s.Stats(), api.StoreStats{Seq: 2, Mem: 2, Files: 3, Free: 29, Generation: 3})
	must(t, "Write", s.Write([]api.Put{del("b"), put("c", strings.Repeat("z", 60))}))
	is(t, "much", s.Stats(), api.StoreStats{Seq: 4, Mem: 4, Files: 3, Free: 29, Generation: 4, Work: 1})
	s.Work()
	is(t, "frozen", s.Stats(), api.StoreStats{Seq: 4, Frozen: 4, Files: 4, Free: 29, Generation: 5, Work: 1})
	s.Snap()
	s.Work()
	is(t, "flushed", s.Stats(), api.StoreStats{Seq: 4, Files: 4, Free: 29, Generation: 6, Snaps: 1, Tables: [api.Levels]int{1}})
}

// P12.7: Live is new memory.
func TestLiveIsNew(t *testing.T) {
	s, _ := spread(t)
	a := s.Live()
	for _, list := range a.Tables {
		for i := range list {
			list[i] = api.Table{}
		}
		_ = append(list, api.Table{})
	}
	b := s.Live()
	for level, list := range b.Tables {
		for _, x := range list {
			if x.Number == 0 || x.Level != level {
				t.Error("spoilt:", x)
			}
		}
	}
	is(t, "kept", s.books.live, b)
}

// What a store answers hangs on its own disk alone.
func TestStoresApart(t *testing.T) {
	_, a := newStore(t, 60, example())
	_, b := newStore(t, 60, example())
	must(t, "Write", a.Write([]api.Put{put("a", "1")}))
	_, ok, err := b.Get("a")
	is(t, "Get", []any{ok, err}, []any{false, api.OK})
	is(t, "Release", []any{first(a.Snap()), b.Release(1)}, []any{uint64(1), api.ErrSnap})
	d, _ := block.New(60)
	c, _ := Open(d, example())
	is(t, "Stats", c.Stats(), b.Stats())
}

func first(n uint64, _ api.Errno) uint64 { return n }
