package store

import (
	"fmt"
	"math/rand"
	"reflect"
	"slices"
	"strings"
	"testing"

	"tapestry/api"
	"tapestry/block"
)

// example is the chapter's configuration.
func example() api.StoreConfig {
	return api.StoreConfig{Mem: 64, Block: 64, Bits: 10, Table: 256, Files0: 2, Base: 256, Edits: 4, Seed: 1}
}

// anyConfig is a configuration that may be; mostly one by which much is done soon.
func anyConfig(r *rand.Rand) api.StoreConfig {
	pick := func(l ...int) int { return l[r.Intn(len(l))] }
	return api.StoreConfig{
		Mem: pick(64, 64, 100, 500, 4000), Block: pick(64, 64, 100, 4096), Bits: pick(0, 1, 10, 20), Table: pick(256, 256, 300, 2000, 65536),
		Files0: pick(1, 2, 3, 8), Base: pick(256, 256, 600, 3000, 1048576), Edits: pick(1, 2, 4, 7, 1000), Seed: r.Uint64(),
	}
}

func anyKey(r *rand.Rand) string {
	letters := []string{"a", "b", "\x00", "\xff", "ab"}
	k := letters[r.Intn(len(letters))]
	for range r.Intn(3) {
		k += letters[r.Intn(len(letters))]
	}
	if r.Intn(60) == 0 {
		k = strings.Repeat(k, 30)
	}
	return k[:min(len(k), api.MaxKey)]
}

// anyPuts are puts; now and then such as may not be, many, or great ones.
func anyPuts(r *rand.Rand) []api.Put {
	many := r.Intn(4)
	switch r.Intn(60) {
	case 0:
		many = 20 + r.Intn(60)
	case 1:
		return []api.Put{{Key: "a", Value: "b"}, {Key: []string{"", strings.Repeat("k", 97)}[r.Intn(2)]}}
	case 2:
		return []api.Put{{Key: "a", Value: "b", Del: true}}
	case 3:
		return make([]api.Put, 257)
	}
	var l []api.Put
	for range many {
		p := api.Put{Key: anyKey(r), Del: r.Intn(4) == 0}
		if !p.Del {
			p.Value = strings.Repeat(string([]byte{byte(r.Intn(256))}), r.Intn(12)) + fmt.Sprint(r.Intn(1000))
			if r.Intn(80) == 0 {
				p.Value = strings.Repeat(p.Value, 100)
			}
		}
		l = append(l, p)
	}
	return l
}

// player plays any calls on a store, its twin, and a plain map.
type player struct {
	t    *testing.T
	r    *rand.Rand
	s    *Store
	w    *twin
	p    *plain
	what string
	acts int // of the disk, when its blocks were looked at
}

func (y *player) same(what string, got, want any) {
	y.t.Helper()
	if !reflect.DeepEqual(got, want) {
		y.t.Fatalf("%s: %s: got %v, want %v", y.what, what, got, want)
	}
}

// reopen opens both disks; false: their power has gone.
func (y *player) reopen(c api.StoreConfig) bool {
	y.t.Helper()
	d := y.w.d
	s, err := Open(y.s.disk, c)
	w, want := openTwin(d, c)
	y.same("Open", err, want)
	if err != api.OK {
		return false
	}
	y.s, y.w = s, w
	clear(y.p.snaps)
	return true
}

// check holds all that is told against the twin's.
func (y *player) check() {
	y.t.Helper()
	if acts := y.s.disk.Acts(); acts != y.acts || acts != y.w.d.Acts() {
		y.acts = acts
		if diff := sameDisk(y.s.disk, y.w.d); diff != "" {
			y.t.Fatalf("%s: disks differ: %s", y.what, diff)
		}
	}
	y.same("Stats", y.s.Stats(), y.w.stats())
	live := y.w.live
	if !y.w.d.Up() {
		live = api.Live{}
	}
	for i := range live.Tables {
		if len(live.Tables[i]) == 0 {
			live.Tables[i] = nil
		}
	}
	got := y.s.Live()
	for i := range got.Tables {
		if len(got.Tables[i]) == 0 {
			got.Tables[i] = nil
		}
	}
	y.same("Live", got, live)
}

func (y *player) write() {
	l := anyPuts(y.r)
	err := y.s.Write(l)
	y.same("Write", err, y.w.write(l))
	if err == api.OK {
		y.p.write(l)
	}
}

func (y *player) work() {
	for range 1 + y.r.Intn(3) {
		moved, err := y.s.Work()
		want, wantErr := y.w.work()
		y.same("Work", []any{moved, err}, []any{want, wantErr})
		y.check()
	}
}

func (y *player) snap() {
	n, err := y.s.Snap()
	if len(y.w.snaps) == api.MaxSnaps {
		y.same("Snap", []any{n, err}, []any{uint64(0), api.ErrFull})
		return
	}
	y.w.given++
	y.same("Snap", []any{n, err}, []any{y.w.given, api.OK})
	y.w.snaps[n] = y.w.seq
	m := map[string]string{}
	for k, v := range y.p.now {
		m[k] = v
	}
	y.p.snaps[n] = m
}

func (y *player) release() {
	n := uint64(y.r.Intn(int(y.w.given) + 3))
	want := api.ErrSnap
	if _, ok := y.w.snaps[n]; ok {
		want = api.OK
	}
	y.same("Release", y.s.Release(n), want)
	delete(y.w.snaps, n)
	delete(y.p.snaps, n)
}

// look looks at one range and one key, now and at a snapshot.
func (y *player) look() {
	acts := y.s.disk.Acts()
	lo, hi, most := anyKey(y.r), anyKey(y.r), y.r.Intn(6)
	if y.r.Intn(3) == 0 {
		hi = ""
	}
	l, err := y.s.Scan(lo, hi, most)
	y.same("Scan", []any{brief(l), err}, []any{brief(scanPlain(y.p.now, lo, hi, most)), api.OK})
	v, ok, err := y.s.Get(lo)
	value, there := y.p.now[lo]
	y.same("Get", []any{v, ok, err}, []any{value, there, api.OK})
	n := uint64(y.r.Intn(int(y.w.given) + 2))
	m, want := y.p.snaps[n], api.ErrSnap
	if m != nil {
		want = api.OK
	}
	l, err = y.s.ScanAt(n, lo, hi, most)
	y.same("ScanAt", []any{brief(l), err}, []any{brief(scanPlain(m, lo, hi, most)), want})
	v, ok, err = y.s.GetAt(n, lo)
	value, there = m[lo]
	y.same("GetAt", []any{v, ok, err}, []any{value, there, want})
	y.same("acts", y.s.disk.Acts(), acts)
}

func newPlayer(t *testing.T, r *rand.Rand, blocks int, c api.StoreConfig, what string) *player {
	t.Helper()
	a, _ := block.New(blocks)
	b, _ := block.New(blocks)
	y := &player{t: t, r: r, p: newPlain(), what: what}
	s, err := Open(a, c)
	w, want := openTwin(b, c)
	if err != want || err != api.OK {
		t.Fatal(what, err, want)
	}
	y.s, y.w = s, w
	return y
}

// P12.2 to P12.8, P12.10: any calls, in any order, on disks that get full or don't: what is answered, what lies on the disk, and what is seen.
func TestAnyCallsAgainstTwin(t *testing.T) {
	full, compactions, deep := 0, 0, 0
	for seed := range 120 {
		r := rand.New(rand.NewSource(int64(seed)))
		blocks := []int{40, 60, 120, 400, 400, 1200}[r.Intn(6)]
		c := anyConfig(r)
		y := newPlayer(t, r, blocks, c, fmt.Sprint("seed ", seed, " blocks ", blocks, " ", c))
		busy := 1 + r.Intn(4)
		for n := range 250 {
			y.what = fmt.Sprint("seed ", seed, " blocks ", blocks, " ", c, " call ", n)
			switch k := r.Intn(20); {
			case k < 8:
				y.write()
			case k < 8+2*busy:
				y.work()
			case k < 17:
				y.look()
			case k == 17:
				y.snap()
			case k == 18:
				y.release()
			case r.Intn(6) == 0:
				if !y.reopen(c) {
					t.Fatal(y.what, "not open")
				}
			}
			y.check()
			if y.s.full {
				full++
			}
			if y.s.underway != nil {
				compactions++
			}
			deep += len(y.s.books.live.Tables[2]) + len(y.s.books.live.Tables[3])
			if n%25 == 0 {
				tells(t, y.what, y.s, y.p)
			}
		}
		tells(t, y.what, y.s, y.p)
	}
	if full == 0 || compactions == 0 || deep == 0 {
		t.Error("not all was tried:", full, compactions, deep)
	}
}

// P12.8: when and whether Work is called changes nothing of what is seen.
func TestWorkChangesNothingSeen(t *testing.T) {
	for seed := range 20 {
		r := rand.New(rand.NewSource(int64(seed)))
		c := anyConfig(r)
		var stores []*Store
		for range 3 {
			d, _ := block.New(4000)
			s, _ := Open(d, c)
			stores = append(stores, s)
		}
		p := newPlain()
		for range 60 {
			l := anyPuts(r)
			snap := r.Intn(10) == 0 && len(p.snaps) < api.MaxSnaps
			for i, s := range stores {
				if err := s.Write(l); err == api.OK && i == 0 {
					p.write(l)
				}
				if snap {
					n, _ := s.Snap()
					p.snaps[n] = map[string]string{}
					for k, v := range p.now {
						p.snaps[n][k] = v
					}
				}
				for range i * r.Intn(5) {
					s.Work()
				}
			}
		}
		for i, s := range stores {
			for more := i > 0; more; more, _ = s.Work() {
			}
			tells(t, fmt.Sprint("seed ", seed, " store ", i), s, p)
		}
		if st := stores[1].Stats(); st.Work != 0 {
			t.Error("work is left:", st)
		}
		if !slices.Equal(stores[1].floors(), stores[0].floors()) {
			t.Error("snapshots differ")
		}
	}
}
