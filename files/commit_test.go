package files_test

import (
	"maps"
	"math/rand"
	"slices"
	"testing"

	"tapestry/api"
	"tapestry/block"
	"tapestry/files"
)

// kept is a file that a model has: all its bytes, and how many of them are old ones, in which blocks.
type kept struct {
	text   string
	old    int
	blocks []int
}

// model is a file system as the chapter says it: what is safe, and what is at hand.
type model struct {
	disk       int
	generation uint64
	safe, hand map[string]kept
	changed    bool
}

func newModel(blocks int) *model {
	return &model{disk: blocks, generation: 1, safe: map[string]kept{}, hand: map[string]kept{}}
}

// root is the safe root.
func (m *model) root() api.Root {
	r := api.Root{Generation: m.generation}
	for _, name := range slices.Sorted(maps.Keys(m.safe)) {
		r.Files = append(r.Files, api.File{Name: name, Size: len(m.safe[name].text), Blocks: m.safe[name].blocks})
	}
	return r
}

// free are the blocks that a commit may take.
func (m *model) free() []int {
	var l []int
	for b := 32; b < m.disk; b++ {
		used := false
		for _, k := range m.safe {
			used = used || slices.Contains(k.blocks, b)
		}
		if !used {
			l = append(l, b)
		}
	}
	return l
}

// next is the model behind a commit, and the writes of both its steps; false: there is no room.
func (m *model) next() (after *model, first, second []step, ok bool) {
	free := m.free()
	after = &model{disk: m.disk, generation: m.generation + 1, safe: map[string]kept{}, hand: map[string]kept{}}
	for _, name := range slices.Sorted(maps.Keys(m.hand)) {
		k := m.hand[name]
		k.blocks = slices.Clone(k.blocks)
		if len(k.text) > k.old {
			k.blocks = k.blocks[:k.old/256]
		}
		for at := len(k.blocks) * 256; at < len(k.text); at += 256 {
			if len(free) == 0 {
				return nil, nil, nil, false
			}
			data := k.text[at:min(at+256, len(k.text))]
			first = append(first, step{free[0], data + of(0, 256-len(data))})
			k.blocks, free = append(k.blocks, free[0]), free[1:]
		}
		k.old = len(k.text)
		after.safe[name], after.hand[name] = k, k
	}
	s, err := files.EncodeRoot(after.root(), m.disk)
	if err != api.OK {
		return nil, nil, nil, false
	}
	slot := int(after.generation%2) * 16
	for i := 0; i*256 < len(s); i++ {
		first = append(first, step{slot + 1 + i, (s + of(0, 256))[i*256 : i*256+256]})
	}
	return after, first, []step{{slot, headOf(after.generation)}}, true
}

// step is a write of a block.
type step struct {
	block int
	data  string
}

// change does one thing, any, to a file system and to its model alike.
func (m *model) change(t *testing.T, r *rand.Rand, f *files.FS) {
	t.Helper()
	names := []string{"a", "b", "c", "dd", "d\x00", of('e', 32)}
	name, to := names[r.Intn(len(names))], names[r.Intn(len(names))]
	k, there := m.hand[name]
	err, want := api.OK, api.OK
	if !there {
		want = api.ErrName
	}
	switch r.Intn(8) {
	case 0, 1:
		err, want = f.Create(name), api.OK
		if there {
			want = api.ErrThere
		} else {
			m.hand[name], m.changed = kept{}, true
		}
	case 2:
		err = f.Delete(name)
		delete(m.hand, name)
		m.changed = m.changed || there
	case 3:
		err = f.Rename(name, to)
		if there && name != to {
			m.hand[to], m.changed = k, true
			delete(m.hand, name)
		}
	default:
		s := bytes(byte(r.Intn(256)), []int{0, 1, r.Intn(20), r.Intn(900), 256 - len(k.text)%256, 256}[r.Intn(6)])
		err = f.Append(name, s)
		if there {
			k.text += s
			m.hand[name], m.changed = k, m.changed || s != ""
		}
	}
	checkErr(t, "a change", err, want)
}

// revert is P4.5's.
func (m *model) revert() { m.hand, m.changed = maps.Clone(m.safe), false }

// same asks whether a file system tells what the model does.
func (m *model) same(t *testing.T, f *files.FS) {
	t.Helper()
	want := map[string]string{}
	for name, k := range m.hand {
		want[name] = k.text
	}
	checkHand(t, f, want)
	checkRoot(t, "Root", f.Root(), m.root())
	if got, want := f.Free(), len(m.free()); got != want {
		t.Errorf("Free: %d, want %d", got, want)
	}
}

// blocks are all blocks of a disk as they are read.
func blocks(t *testing.T, d *block.Dev) []string {
	t.Helper()
	l := make([]string, d.Blocks())
	for i := range l {
		s, err := d.Read(i)
		checkErr(t, "Read of a block", err, api.OK)
		l[i] = s
	}
	return l
}

// commit commits both, and asks what became of each block of the disk.
func (m *model) commit(t *testing.T, f *files.FS, d *block.Dev) *model {
	t.Helper()
	want, acts := blocks(t, d), d.Acts()
	after, first, second, ok := m.next()
	switch {
	case !m.changed:
		checkErr(t, "Commit of nothing", f.Commit(), api.OK)
		after = m
	case !ok:
		checkErr(t, "Commit", f.Commit(), api.ErrFull)
		after = m
	default:
		checkErr(t, "Commit", f.Commit(), api.OK)
		acts += len(first) + len(second) + 2
		for _, s := range append(first, second...) {
			want[s.block] = s.data
		}
	}
	if got := blocks(t, d); !slices.Equal(got, want) || d.Acts() != acts || len(d.Pending()) != 0 {
		t.Errorf("Commit: other blocks, %d acts more than so many, or %v pending", d.Acts()-acts, d.Pending())
	}
	return after
}

// P4.2 to P4.8, P4.10: any calls, one behind the other, tell what the model does.
func TestAnyCalls(t *testing.T) {
	full, commits := 0, 0
	for seed := range 60 {
		r := rand.New(rand.NewSource(int64(seed)))
		m := newModel(40 + r.Intn(8))
		d := disk(t, m.disk)
		f := open(t, d)
		for range 150 {
			m.change(t, r, f)
			switch r.Intn(12) {
			case 0, 1:
				_, _, _, ok := m.next()
				if !ok {
					full++
				}
				m = m.commit(t, f, d)
				commits++
			case 2:
				f.Revert()
				m.revert()
			case 3:
				d.Crash(nil, -1, 0)
				checkDead(t, f, api.ErrDead)
				f = open(t, d)
				m.revert()
			}
			m.same(t, f)
		}
	}
	if full < 50 || commits < 2*full {
		t.Errorf("%d commits, %d of them full", commits, full)
	}
}

// P4.7: which writes are pending at each Sync, in order: what is told by those that a loss of power leaves there.
func TestTheActsOfACommit(t *testing.T) {
	ready := func() (*files.FS, *block.Dev) {
		f, d := start(t, 60, map[string]string{"a": bytes(1, 300), "b": bytes(2, 256), "c": bytes(3, 700), "d": "d"})
		checkErr(t, "Append", f.Append("d", "more"), api.OK)
		checkErr(t, "Append", f.Append("b", bytes(4, 257)), api.OK)
		checkErr(t, "Delete", f.Delete("a"), api.OK)
		checkErr(t, "Create", f.Create("e"), api.OK)
		checkErr(t, "Append", f.Append("a\x00", ""), api.ErrName)
		checkErr(t, "Rename", f.Rename("c", "a"), api.OK) // its old bytes go with it
		checkErr(t, "Append", f.Append("a", bytes(5, 70)), api.OK)
		return f, d
	}
	// Ahead of it: a 32 33, b 34, c 35 36 37, d 38, of the Generation 2, in the slot 0.
	first := []int{39, 40, 41, 42, 43, 17}
	for n := 1; n <= len(first)+3; n++ {
		f, d := ready()
		d.Arm(n)
		acts := d.Acts()
		checkErr(t, "Commit", f.Commit(), api.ErrDead)
		want := first[:min(n, len(first))]
		if n > len(first)+1 {
			want = []int{16}
		}
		if !slices.Equal(d.Pending(), want) || d.Acts() != acts+n {
			t.Errorf("the power goes at %d: pending %v, want %v; %d acts", n, d.Pending(), want, d.Acts()-acts)
		}
		checkDead(t, f, api.ErrDead)
	}
	f, d := ready()
	d.Arm(len(first) + 4)
	checkErr(t, "Commit", f.Commit(), api.OK)
	checkRoot(t, "Root", f.Root(), api.Root{Generation: 3, Files: []api.File{
		{Name: "a", Size: 770, Blocks: []int{35, 36, 39, 40}}, {Name: "b", Size: 513, Blocks: []int{34, 41, 42}}, {Name: "d", Size: 5, Blocks: []int{43}}, {Name: "e"},
	}})
	for b, want := range map[int]string{34: bytes(2, 256), 35: bytes(3, 256), 39: bytes(3, 700)[512:] + bytes(5, 68), 40: bytes(5, 70)[68:] + of(0, 254), 41: bytes(4, 256), 42: bytes(4, 257)[256:] + of(0, 255), 43: "dmore" + of(0, 251), 16: headOf(3)} {
		if s, _ := d.Read(b); s != want {
			t.Errorf("the block %d: %q, want %q", b, short(s), short(want))
		}
	}
}

// P4.7: what counts as a change, and what doesn't.
func TestWhatIsCommitted(t *testing.T) {
	for _, c := range []struct {
		what    string
		do      func(f *files.FS) api.Errno
		changed bool
	}{
		{"nothing", func(f *files.FS) api.Errno { return api.OK }, false},
		{"Create", func(f *files.FS) api.Errno { return f.Create("new") }, true},
		{"Create, and Delete", func(f *files.FS) api.Errno { return f.Create("new") + f.Delete("new") }, true},
		{"Append", func(f *files.FS) api.Errno { return f.Append("a", "x") }, true},
		{"Append of nothing", func(f *files.FS) api.Errno { return f.Append("a", "") }, false},
		{"Delete", func(f *files.FS) api.Errno { return f.Delete("a") }, true},
		{"Rename", func(f *files.FS) api.Errno { return f.Rename("a", "c") }, true},
		{"Rename, and back", func(f *files.FS) api.Errno { return f.Rename("a", "c") + f.Rename("c", "a") }, true},
		{"Rename to one that is there", func(f *files.FS) api.Errno { return f.Rename("a", "b") }, true},
		{"Rename to its own name", func(f *files.FS) api.Errno { return f.Rename("a", "a") }, false},
		{"Create, and Revert", func(f *files.FS) api.Errno { defer f.Revert(); return f.Create("new") }, false},
		{"Revert, and Create", func(f *files.FS) api.Errno { f.Revert(); return f.Create("new") }, true},
		{"a change that was committed", func(f *files.FS) api.Errno { return f.Append("a", "x") + f.Commit() }, false},
		{"refused calls", func(f *files.FS) api.Errno {
			f.Create("a")
			f.Create("")
			f.Append("c", "x")
			f.Delete("c")
			f.Rename("a", "")
			f.Rename("c", "a")
			return api.OK
		}, false},
		{"looks", func(f *files.FS) api.Errno {
			f.Names()
			f.Size("a")
			f.Read("a", 0, 9)
			f.Free()
			f.Root()
			return api.OK
		}, false},
	} {
		f, d := start(t, 40, map[string]string{"a": "one", "b": "two"})
		checkErr(t, c.what, c.do(f), api.OK)
		acts, g := d.Acts(), f.Root().Generation
		checkErr(t, "Commit", f.Commit(), api.OK)
		if changed := d.Acts() != acts; changed != c.changed || (f.Root().Generation == g+1) != c.changed {
			t.Errorf("%s, Commit: %d acts", c.what, d.Acts()-acts)
		}
		acts = d.Acts()
		checkErr(t, "Commit once more", f.Commit(), api.OK)
		if d.Acts() != acts {
			t.Errorf("%s, Commit twice: %d acts more", c.what, d.Acts()-acts)
		}
	}
}

// P4.7: too few blocks: those of the safe root count, even of files that are no more.
func TestCommitIsFull(t *testing.T) {
	f, d := start(t, 40, map[string]string{"a": of('a', 1024), "b": "b"})
	checkErr(t, "Append", f.Append("b", of('b', 767)), api.OK) // three blocks of three
	acts := d.Acts()
	checkErr(t, "Create", f.Create("c"), api.OK)
	checkErr(t, "Append", f.Append("c", "c"), api.OK)
	for range 2 {
		checkErr(t, "Commit", f.Commit(), api.ErrFull)
	}
	checkErr(t, "Delete", f.Delete("a"), api.OK)
	checkErr(t, "Commit", f.Commit(), api.ErrFull)
	checkHand(t, f, map[string]string{"b": "b" + of('b', 767), "c": "c"})
	if d.Acts() != acts || f.Free() != 3 || f.Root().Generation != 2 {
		t.Errorf("%d acts, Free %d, Root %v", d.Acts()-acts, f.Free(), f.Root())
	}
	checkErr(t, "Delete", f.Delete("c"), api.OK)
	checkErr(t, "Commit", f.Commit(), api.OK)
	checkRoot(t, "Root", f.Root(), api.Root{Generation: 3, Files: []api.File{{Name: "b", Size: 768, Blocks: []int{37, 38, 39}}}})
	checkErr(t, "Append", f.Append("b", of('b', 256*6)), api.OK)
	checkErr(t, "Commit", f.Commit(), api.ErrFull)
	f.Revert()
	checkErr(t, "Append", f.Append("b", of('b', 256*5)), api.OK)
	checkErr(t, "Commit", f.Commit(), api.OK)
	checkErr(t, "Append", f.Append("b", "b"), api.OK)
	checkErr(t, "Commit", f.Commit(), api.ErrFull)
	f.Revert()
	checkErr(t, "Commit of nothing", f.Commit(), api.OK)
	checkHand(t, f, map[string]string{"b": of('b', 768+256*5)})
}

// P4.7: a root that a slot doesn't hold; and a Generation behind the last one.
func TestCommitOfARootThatIsRefused(t *testing.T) {
	r := api.Root{Generation: 6, Files: []api.File{file("a", every(32, 1264)...)}}
	s, err := files.EncodeRoot(r, 5000)
	checkErr(t, "EncodeRoot", err, api.OK)
	d := disk(t, 5000)
	lay(t, d, 0, headOf(6), s)
	f, acts, n := open(t, d), d.Acts(), 0
	checkErr(t, "Create", f.Create("b"), api.OK)
	for ; f.Commit() == api.OK; n++ {
		acts = d.Acts()
		checkErr(t, "Create", f.Create("b"+of('b', 1+n)), api.OK)
		if n > 30 {
			t.Fatal("no root is too long")
		}
	}
	checkErr(t, "Commit", f.Commit(), api.ErrFull)
	if n == 0 || d.Acts() != acts || len(f.Names()) != n+2 || f.Root().Generation != uint64(6+n) {
		t.Errorf("%d commits, %d acts, %d files", n, d.Acts()-acts, len(f.Names()))
	}

	d = disk(t, 40)
	lay(t, d, 1, headOf(1<<62-1), encode(t, api.Root{Generation: 1<<62 - 1}))
	f = open(t, d)
	checkErr(t, "Create", f.Create("a"), api.OK)
	checkErr(t, "Commit", f.Commit(), api.OK)
	checkErr(t, "Create", f.Create("b"), api.OK)
	acts = d.Acts()
	for range 2 {
		checkErr(t, "Commit behind the last Generation", f.Commit(), api.ErrFull)
	}
	checkRoot(t, "Root", f.Root(), api.Root{Generation: 1 << 62, Files: []api.File{{Name: "a"}}})
	checkHand(t, f, map[string]string{"a": "", "b": ""})
	if d.Acts() != acts {
		t.Errorf("%d acts", d.Acts()-acts)
	}
}

// losses goes through what a Crash may make of so many pending writes: each choice of those that are kept, and each one torn in some ways.
func losses(pending int, try func(keep []bool, torn, bytes int)) {
	for set := range 1 << pending {
		keep := make([]bool, pending)
		for k := range keep {
			keep[k] = set>>k&1 == 1
		}
		try(keep, -1, 0)
		for torn := range pending {
			for _, bytes := range []int{0, 1, 7, 8, 9, 100, 247, 248, 249, 255, 256} {
				try(keep, torn, bytes)
			}
		}
	}
}

// P4.9: a commit is cut off at each act, and each loss of power is tried.
func TestAllOrNothing(t *testing.T) {
	before := map[string]string{"a": "old", "b": of('b', 256)}
	after := map[string]string{"b": of('b', 300), "c": "new"}
	for generation := range 2 { // into each of both slots
		ready := func() (*files.FS, *block.Dev) {
			f, d := start(t, 40, before)
			if generation == 1 {
				checkErr(t, "Create, Delete, Commit", f.Create("x")+f.Delete("x")+f.Commit(), api.OK)
			}
			checkErr(t, "changes", f.Append("b", of('b', 44))+f.Create("c")+f.Append("c", "new")+f.Delete("a"), api.OK)
			return f, d
		}
		for n := 1; n <= 6; n++ {
			f, d := ready()
			d.Arm(n)
			checkErr(t, "Commit", f.Commit(), api.ErrDead)
			all, nothing := 0, 0
			losses(len(d.Pending()), func(keep []bool, torn, bytes int) {
				f, d := ready()
				d.Arm(n)
				f.Commit()
				d.Crash(keep, torn, bytes)
				f = open(t, d)
				if slices.Contains(f.Names(), "a") {
					checkHand(t, f, before)
					nothing++
				} else {
					checkHand(t, f, after)
					all++
				}
			})
			if nothing == 0 || (all > 0) != (n > 4) { // from when the head is written on it may be there
				t.Errorf("the power goes at %d: all %d times, nothing %d times", n, all, nothing)
			}
		}
	}
}

// P4.9: while a disk is opened that has no root.
func TestOpenIsCutOff(t *testing.T) {
	for n := 1; n <= 4; n++ {
		losses([]int{1, 1, 1, 1}[n-1], func(keep []bool, torn, bytes int) {
			d := disk(t, 40)
			d.Arm(n)
			_, err := files.Open(d)
			checkErr(t, "Open", err, api.ErrDead)
			d.Crash(keep, torn, bytes)
			f := open(t, d)
			checkRoot(t, "Root", f.Root(), api.Root{Generation: 1})
			checkErr(t, "Create, Commit", f.Create("a")+f.Commit(), api.OK)
			d.Crash(nil, -1, 0)
			checkHand(t, open(t, d), map[string]string{"a": ""})
		})
	}
}

// P4.9: any changes, and loss behind loss.
func TestLossBehindLoss(t *testing.T) {
	all, nothing := 0, 0
	for seed := range 200 {
		r := rand.New(rand.NewSource(int64(seed)))
		m := newModel(45 + r.Intn(30))
		d := disk(t, m.disk)
		f := open(t, d)
		for range 40 {
			for range 1 + r.Intn(6) {
				m.change(t, r, f)
			}
			after, first, _, ok := m.next()
			if !m.changed || !ok {
				m = m.commit(t, f, d)
				f.Revert()
				m.revert()
				continue
			}
			n := 1 + r.Intn(len(first)+5)
			d.Arm(n)
			err := f.Commit()
			if want := n > len(first)+3; (err == api.OK) != want {
				t.Errorf("Commit of %d acts, the power goes at %d: %d", len(first)+3, n, err)
			}
			keep := make([]bool, r.Intn(len(d.Pending())+2))
			for k := range keep {
				keep[k] = r.Intn(2) == 1
			}
			d.Crash(keep, r.Intn(len(d.Pending())+2)-1, r.Intn(258)-1)
			f = open(t, d)
			if f.Root().Generation == after.generation {
				m = after
				all++
			} else if m.revert(); err != api.OK {
				nothing++
			} else {
				t.Error("what was answered OK is lost")
			}
			m.same(t, f)
		}
	}
	if all < 100 || nothing < 100 {
		t.Errorf("all %d times, nothing %d times", all, nothing)
	}
}

// P4.10: a great commit beside a great root: what is safe is as it was at each act.
func TestWhatIsSafeIsNotWritten(t *testing.T) {
	for n := 1; n < 80; n++ {
		f, d := start(t, 120, map[string]string{"a": bytes(1, 3000), "b": bytes(2, 5000), "c": bytes(3, 100)})
		checkErr(t, "changes", f.Delete("b")+f.Append("c", bytes(4, 9000))+f.Append("a", bytes(5, 4000))+f.Rename("a", "b"), api.OK)
		before := blocks(t, d)
		safe := []int{}
		for _, file := range f.Root().Files {
			safe = append(safe, file.Blocks...)
		}
		for b := range 16 { // the slot of the Generation 2
			safe = append(safe, b)
		}
		d.Arm(n)
		err := f.Commit()
		for _, b := range d.Pending() {
			if slices.Contains(safe, b) {
				t.Fatalf("the power goes at %d: the block %d is written", n, b)
			}
		}
		d.Crash(slices.Repeat([]bool{true}, 100), -1, 0)
		now := blocks(t, d)
		for _, b := range safe {
			if now[b] != before[b] {
				t.Fatalf("the power goes at %d: the block %d is another", n, b)
			}
		}
		if err == api.OK {
			return
		}
	}
	t.Error("no commit was done")
}
