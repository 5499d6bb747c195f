package store

import (
	"fmt"
	"maps"
	"math/rand"
	"slices"
	"strings"
	"testing"

	"tapestry/api"
	"tapestry/block"
	"tapestry/manifest"
	"tapestry/wal"
)

// Disks that others have written to: every call ends, none panics, and what can't be is told by ErrBroken.

func TestOpenBroken(t *testing.T) {
	name := manifest.Name(1)
	edit := entry(t, api.Edit{Next: 5, Seq: 1, Log: 2})
	good := map[string]string{"current": name, name: edit, wal.Name(2): batch(t, 2, put("a", "b"))}
	_, err := Open(diskOf(t, 60, good), example())
	must(t, "the good one", err)
	for what, change := range map[string]map[string]string{
		"no current":                 {"current": "-"},
		"no manifest":                {name: "-"},
		"no log":                     {wal.Name(2): "-"},
		"current says nothing":       {"current": ""},
		"current says itself":        {"current": "current"},
		"current says another":       {"current": manifest.Name(7)},
		"an empty manifest":          {name: ""},
		"a manifest of others":       {name: "x"},
		"a manifest that is cut off": {name: edit + edit[:5]},
		"a manifest that falls":      {name: edit + entry(t, api.Edit{Next: 4, Seq: 1, Log: 2})},
		"a log of others":            {wal.Name(2): "x"},
		"a log that is cut off":      {wal.Name(2): good[wal.Name(2)] + "x"},
		"versions twice":             {wal.Name(3): good[wal.Name(2)]},
		"a log's number":             {wal.Name(1 << 63): ""},
		"a table's number":           {manifest.Table(1<<64 - 1): ""},
	} {
		m := maps.Clone(good)
		maps.Copy(m, change)
		maps.DeleteFunc(m, func(_, bytes string) bool { return bytes == "-" })
		d := diskOf(t, 60, m)
		s, err := Open(d, example())
		is(t, what, []any{s, err}, []any{(*Store)(nil), api.ErrBroken})
		is(t, what+": files", onDisk(t, d), m)
	}
}

// A live table that can't be read: looks that need it, and Work, are answered by ErrBroken, all others go on.
func TestBrokenTable(t *testing.T) {
	d, s := newStore(t, 100, example())
	for _, k := range []string{"a", "b"} {
		must(t, "Write", s.Write([]api.Put{put(k, strings.Repeat("v", 60)), put(k+k, "w")}))
		works(t, s)
		works(t, s)
	}
	whole := onDisk(t, d)
	for what, bytes := range map[string]string{
		"gone":    "-",
		"empty":   "",
		"cut off": whole[manifest.Table(6)][:50],
		"spoilt":  "\x00" + whole[manifest.Table(6)][1:], // in a data block, which Open of a table doesn't look at
	} {
		m := maps.Clone(whole)
		m[manifest.Table(6)] = bytes
		maps.DeleteFunc(m, func(_, bytes string) bool { return bytes == "-" })
		d := diskOf(t, 100, m)
		s, err := Open(d, example())
		must(t, "Open", err)
		v, ok, err := s.Get("b")
		is(t, what+": Get", []any{v, ok, err}, []any{"", false, api.ErrBroken})
		l, err := s.Scan("", "", 9)
		is(t, what+": Scan", []any{len(l), err}, []any{0, api.ErrBroken})
		n, _ := s.Snap()
		v, ok, err = s.GetAt(n, "b")
		is(t, what+": GetAt", []any{v, ok, err}, []any{"", false, api.ErrBroken})
		l, err = s.ScanAt(n, "", "", 9)
		is(t, what+": ScanAt", []any{len(l), err}, []any{0, api.ErrBroken})
		moved, err := s.Work()
		is(t, what+": Work", []any{moved, err}, []any{false, api.ErrBroken})
		v, ok, err = s.Get("aa")
		is(t, what+": Get of another", []any{v, ok, err}, []any{"w", true, api.OK})
		must(t, "Write", s.Write([]api.Put{put("c", "d")}))
	}
}

// anyAnswers makes all calls of a store; an error must be one that may be, beside noughts.
func anyAnswers(t *testing.T, what string, r *rand.Rand, s *Store) {
	t.Helper()
	known := func(call string, err api.Errno, noughts bool, more ...api.Errno) {
		t.Helper()
		may := append(more, api.OK, api.ErrBroken, api.ErrFull)
		if !slices.Contains(may, err) || err != api.OK && !noughts {
			t.Fatalf("%s: %s: %d %v", what, call, err, noughts)
		}
	}
	key, hi := anyKey(r), anyKey(r)
	known("Write", s.Write(anyPuts(r)), true, api.ErrArg)
	v, ok, err := s.Get(key)
	known("Get", err, v == "" && !ok)
	l, err := s.Scan(key, hi, r.Intn(20))
	known("Scan", err, len(l) == 0)
	l, err = s.Scan("", "", 1000)
	known("Scan", err, len(l) == 0)
	n, err := s.Snap()
	known("Snap", err, n == 0)
	v, ok, err = s.GetAt(n, key)
	known("GetAt", err, v == "" && !ok, api.ErrSnap)
	l, err = s.ScanAt(n, key, hi, 5)
	known("ScanAt", err, len(l) == 0, api.ErrSnap)
	if r.Intn(2) == 0 {
		known("Release", s.Release(n), true, api.ErrSnap)
	}
	moved, err := s.Work()
	known("Work", err, !moved)
	s.Live()
	s.Stats()
}

// spoil makes files of a store other ones.
func spoil(r *rand.Rand, m map[string]string) {
	for range 1 + r.Intn(3) {
		names := slices.Sorted(maps.Keys(m))
		name, other := names[r.Intn(len(names))], names[r.Intn(len(names))]
		bytes := []byte(m[name])
		at := r.Intn(len(bytes) + 1)
		switch r.Intn(7) {
		case 0, 1:
			if at < len(bytes) {
				bytes[at] ^= 1 << r.Intn(8)
			}
		case 2:
			bytes = bytes[:at]
		case 3:
			bytes = append(bytes[:at:at], m[other]...)
		case 4:
			bytes = []byte(m[other])
		case 5:
			delete(m, name)
			continue
		case 6:
			name = []string{wal.Name(r.Uint64()), manifest.Name(r.Uint64() % 40), manifest.Table(r.Uint64() % 40), "current.new"}[r.Intn(4)]
		}
		m[name] = string(bytes)
	}
}

func TestSpoiltFiles(t *testing.T) {
	opened, broken := 0, 0
	for seed := range 800 {
		r := rand.New(rand.NewSource(int64(seed)))
		c := anyConfig(r)
		d, s := newStore(t, 200, c)
		for range r.Intn(40) {
			s.Write(anyPuts(r))
			s.Work()
			s.Work()
		}
		m := onDisk(t, d)
		spoil(r, m)
		if len(m) > api.MaxFiles {
			continue
		}
		d = diskOf(t, 600, m)
		s, err := Open(d, c)
		if err != api.OK {
			broken++
			is(t, "Open", []any{s, err}, []any{(*Store)(nil), api.ErrBroken})
			continue
		}
		opened++
		for n := range 30 {
			anyAnswers(t, fmt.Sprint("seed ", seed, " call ", n), r, s)
		}
	}
	if opened == 0 || broken == 0 {
		t.Error("not all was tried:", opened, broken)
	}
}

// An edit may say of tables what isn't so, and may have the greatest numbers.
func TestForeignEdits(t *testing.T) {
	d, s := newStore(t, 200, example())
	for i := range 9 {
		must(t, "Write", s.Write([]api.Put{put(fmt.Sprint("k", i), strings.Repeat("v", 60)), put("q", "w")}))
		for s.Stats().Work != 0 {
			works(t, s)
		}
	}
	m := onDisk(t, d)
	live := s.Live()
	for seed := range 300 {
		r := rand.New(rand.NewSource(int64(seed)))
		e := manifest.Whole(live)
		if r.Intn(2) == 0 {
			e.Next = 1<<62 - uint64(r.Intn(4))
		}
		if r.Intn(4) == 0 {
			e.Seq = 1 << 62
		}
		for i := range e.Add {
			x := &e.Add[i]
			x.Level, x.Size = r.Intn(api.Levels), 1+r.Intn(1<<30)
			x.Least, x.Greatest = anyKey(r), anyKey(r)
			x.Least, x.Greatest = min(x.Least, x.Greatest), max(x.Least, x.Greatest)
		}
		spoilt := maps.Clone(m)
		spoilt[m["current"]] = entry(t, e)
		s, err := Open(diskOf(t, 300, spoilt), example())
		if err != api.OK {
			is(t, "Open", err, api.ErrBroken)
			continue
		}
		for n := range 30 {
			anyAnswers(t, fmt.Sprint("seed ", seed, " call ", n), r, s)
		}
	}
}

// Blocks that are others: what the file system takes for files.
func TestSpoiltBlocks(t *testing.T) {
	for seed := range 300 {
		r := rand.New(rand.NewSource(int64(seed)))
		d, s := newStore(t, 120, example())
		for range 20 {
			s.Write(anyPuts(r))
			s.Work()
		}
		for range 1 + r.Intn(6) {
			at, from := r.Intn(d.Blocks()), r.Intn(d.Blocks())
			bytes, _ := d.Read(from)
			if r.Intn(2) == 0 {
				bytes = strings.Repeat(string([]byte{byte(r.Intn(256))}), api.BlockSize)
			}
			d.Write(at, bytes)
		}
		// The one that was open goes on as well as it can.
		for n := range 10 {
			anyAnswers(t, fmt.Sprint("seed ", seed, " call ", n), r, s)
		}
		s, err := Open(d, example())
		if err != api.OK {
			is(t, "Open", []any{s, err}, []any{(*Store)(nil), api.ErrBroken})
			continue
		}
		for n := range 10 {
			anyAnswers(t, fmt.Sprint("seed ", seed, " call ", n), r, s)
		}
	}
}

// Two stores that write to one disk spoil it for one another, and yet answer.
func TestTwoStoresOnOneDisk(t *testing.T) {
	for seed := range 60 {
		r := rand.New(rand.NewSource(int64(seed)))
		d, a := newStore(t, 150, example())
		b, err := Open(d, example())
		must(t, "Open", err)
		for n := range 60 {
			anyAnswers(t, fmt.Sprint("seed ", seed, " call ", n), r, []*Store{a, b}[r.Intn(2)])
		}
	}
}

// Any disk at all.
func TestAnyDisk(t *testing.T) {
	for seed := range 200 {
		r := rand.New(rand.NewSource(int64(seed)))
		d, _ := block.New(40 + r.Intn(60))
		for range r.Intn(80) {
			bytes := make([]byte, api.BlockSize)
			r.Read(bytes[r.Intn(len(bytes)):])
			d.Write(r.Intn(d.Blocks()), string(bytes))
		}
		s, err := Open(d, example())
		must(t, "Open", err)
		anyAnswers(t, "any disk", r, s)
	}
}
