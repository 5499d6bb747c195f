package store

import (
	"fmt"
	"maps"
	"math/rand"
	"slices"
	"strings"
	"testing"

	"tapestry/api"
	"tapestry/block"
)

// doing is one thing of a play: a Write, or (no puts) a Work.
type doing []api.Put

// aPlay has all kinds of steps in it.
func aPlay() []doing {
	var l []doing
	for i := range 14 {
		l = append(l, doing{put(fmt.Sprint("k", i*5%7), strings.Repeat("v", 20+i)), put("all", fmt.Sprint(i))})
		if i%3 == 2 {
			l = append(l, doing{del(fmt.Sprint("k", i*3%7)), put("cut", strings.Repeat("c", 300))})
		}
		l = append(l, nil, nil, nil)
	}
	return l
}

// play does all of a play till the power goes: what was seen then, and what a Write that was cut off would have made of it.
func play(s *Store, l []doing) (was, would map[string]string) {
	p := newPlain()
	for _, x := range l {
		if x == nil {
			if _, err := s.Work(); err == api.ErrDead {
				break
			}
			continue
		}
		before := maps.Clone(p.now)
		err := s.Write(x)
		p.write(x)
		if err == api.ErrDead {
			return before, p.now
		}
	}
	return p.now, p.now
}

func seen(t *testing.T, s *Store) map[string]string {
	t.Helper()
	l, err := s.Scan("", "", 1000)
	must(t, "Scan", err)
	m := map[string]string{}
	for _, p := range l {
		m[p.Key] = p.Value
	}
	return m
}

// losses are what a loss of power may keep of so many pending writes, and which one it tears.
func losses(r *rand.Rand, pending int) []func(d *block.Dev) {
	all := slices.Repeat([]bool{true}, pending)
	some := slices.Clone(all)
	for i := range some {
		some[i] = r.Intn(2) == 0
	}
	torn, bytes := r.Intn(pending+1), r.Intn(api.BlockSize+1)
	return []func(d *block.Dev){
		func(d *block.Dev) { d.Crash(nil, -1, 0) },
		func(d *block.Dev) { d.Crash(all, -1, 0) },
		func(d *block.Dev) { d.Crash(all, pending-1, bytes) },
		func(d *block.Dev) { d.Crash(some, torn, bytes) },
	}
}

// P12.9: the power goes at each act of a play; what is found then is found ever after.
func TestLossAtEachAct(t *testing.T) {
	l := aPlay()
	r := rand.New(rand.NewSource(1))
	for act := 1; ; act++ {
		for n := range 4 {
			d, s := newStore(t, 160, example())
			d.Arm(act)
			was, would := play(s, l)
			if d.Up() {
				if act < 250 {
					t.Error("few acts:", act)
				}
				return
			}
			losses(r, len(d.Pending()))[n](d)
			what := fmt.Sprint("act ", act, " loss ", n)
			found := openedUnderLosses(t, what, d)
			if !maps.Equal(found, was) && !maps.Equal(found, would) {
				t.Fatalf("%s: found %v, was %v, would be %v", what, found, was, would)
			}
		}
	}
}

// openedUnderLosses is what Open finds, with the power lost at its first acts again and again.
func openedUnderLosses(t *testing.T, what string, d *block.Dev) map[string]string {
	t.Helper()
	opens := 0
	for act := 1; ; act++ {
		d.Arm(act)
		s, err := Open(d, example())
		if err == api.ErrDead {
			d.Crash([]bool{act%2 == 0, true, true}, -1, 0)
			continue
		}
		must(t, what, err)
		d.Arm(0)
		found := seen(t, s)
		for range 2 {
			d.Crash(nil, -1, 0)
			s, err = Open(d, example())
			must(t, what, err)
			if again := seen(t, s); !maps.Equal(again, found) {
				t.Fatalf("%s: found %v, then %v", what, found, again)
			}
			s.Work()
			s.Work()
			opens++
		}
		return found
	}
}

// P12.9: one loss behind the other, at any acts, on disks that get full or don't; the twin is lost likewise.
func TestLossBehindLoss(t *testing.T) {
	orphans, cut := 0, 0
	for seed := range 120 {
		r := rand.New(rand.NewSource(int64(1000 + seed)))
		blocks, c := []int{60, 100, 200}[r.Intn(3)], anyConfig(r)
		y := newPlayer(t, r, blocks, c, fmt.Sprint("seed ", seed))
		for n := range 12 {
			y.what = fmt.Sprint("seed ", seed, " loss ", n, " ", c)
			was, would := y.until(1 + r.Intn(60))
			y.check()
			pending := len(y.s.disk.Pending())
			keep := make([]bool, r.Intn(pending+2))
			for i := range keep {
				keep[i] = r.Intn(3) > 0
			}
			torn, bytes := r.Intn(pending+2)-1, r.Intn(300)-20
			y.s.disk.Crash(keep, torn, bytes)
			y.w.d.Crash(keep, torn, bytes)
			orphans += len(onDiskWithout(t, y.s.disk, y.s))
			for act := r.Intn(4); !y.reopened(c, act); act++ {
			}
			y.check()
			found := seen(t, y.s)
			if !maps.Equal(found, was) && !maps.Equal(found, would) {
				t.Fatalf("%s: found %v, was %v, would be %v", y.what, found, was, would)
			}
			if !maps.Equal(found, was) {
				cut++
			}
			y.p.now = found
			tells(t, y.what, y.s, y.p)
		}
	}
	if orphans == 0 || cut == 0 {
		t.Error("not all was tried:", orphans, cut)
	}
}

// onDiskWithout are the names of the tables on a disk that aren't live.
func onDiskWithout(t *testing.T, d *block.Dev, s *Store) []string {
	t.Helper()
	live := map[uint64]int{}
	for _, list := range s.books.live.Tables {
		for _, x := range list {
			live[x.Number] = 1
		}
	}
	var l []string
	for _, name := range namesOn(t, d) {
		if n, ok := number(name); ok && strings.HasPrefix(name, "table-") && live[n] == 0 {
			l = append(l, name)
		}
	}
	return l
}

// until goes on with writes and works till the power goes at an act: what was seen then, and what a Write that was cut off would have made of it.
func (y *player) until(act int) (was, would map[string]string) {
	y.t.Helper()
	y.s.disk.Arm(act)
	y.w.d.Arm(act)
	for range 400 {
		if y.r.Intn(2) == 0 {
			moved, err := y.s.Work()
			want, wantErr := y.w.work()
			y.same("Work", []any{moved, err}, []any{want, wantErr})
		} else {
			l := anyPuts(y.r)
			err := y.s.Write(l)
			y.same("Write", err, y.w.write(l))
			before := maps.Clone(y.p.now)
			if err == api.OK || err == api.ErrDead {
				y.p.write(l)
			}
			if err == api.ErrDead {
				return before, y.p.now
			}
		}
		if !y.s.disk.Up() {
			break
		}
	}
	return y.p.now, y.p.now
}

// reopened opens both disks, armed with an act; false: the power went, and is back.
func (y *player) reopened(c api.StoreConfig, act int) bool {
	y.t.Helper()
	a, b := y.s.disk, y.w.d
	a.Arm(act)
	b.Arm(act)
	open := y.reopen(c)
	if !open {
		a.Crash([]bool{true}, 1, 50)
		b.Crash([]bool{true}, 1, 50)
	}
	a.Arm(0)
	b.Arm(0)
	return open
}
