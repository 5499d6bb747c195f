package merge_test

import (
	"iter"
	"math"
	"math/rand"
	"runtime"
	"slices"
	"strings"
	"testing"
	"time"
	"unsafe"

	"tapestry/api"
	"tapestry/memtable"
	"tapestry/merge"
)

type versions = iter.Seq[api.Version]

// of are so many bytes, all alike.
func of(c string, n int) string { return strings.Repeat(c, n) }

// gets is a version that gives a key a value, del one that takes it out.
func gets(key string, seq uint64, value string) api.Version {
	return api.Version{Key: key, Seq: seq, Value: value}
}
func del(key string, seq uint64) api.Version { return api.Version{Key: key, Seq: seq, Del: true} }

// row is a sequence of these.
func row(l ...api.Version) versions { return slices.Values(l) }

func rows(lists [][]api.Version) []versions {
	var l []versions
	for _, list := range lists {
		l = append(l, row(list...))
	}
	return l
}

// standsAhead is the order of versions, as chapter 6 says it.
func standsAhead(a, b api.Version) bool { return a.Key < b.Key || a.Key == b.Key && a.Seq > b.Seq }

func onePlace(a, b api.Version) bool { return a.Key == b.Key && a.Seq == b.Seq }

// merged is what Merge is said to tell of some lists, up to so many versions; and how many versions of each list are taken by when the last one of them is told.
func merged(lists [][]api.Version, most int) ([]api.Version, []int) {
	var told []api.Version
	at := make([]int, len(lists)) // in each list the place of the version at hand
	for {
		least := -1
		for i, l := range lists {
			if at[i] < len(l) && (least < 0 || standsAhead(l[at[i]], lists[least][at[least]])) {
				least = i
			}
		}
		if least < 0 {
			break
		}
		v := lists[least][at[least]]
		told = append(told, v)
		if len(told) == most {
			break
		}
		for i, l := range lists {
			if at[i] < len(l) && onePlace(l[at[i]], v) {
				at[i]++
			}
		}
	}
	for i, l := range lists {
		at[i] = min(at[i]+1, len(l))
	}
	return told, at
}

// watched is a sequence that is looked at: how often it was begun, how many versions it told in all, and how it ended.
type watched struct {
	list                          []api.Version
	begun, told, left, wasAllSeen int
}

func (w *watched) all(yield func(api.Version) bool) {
	w.begun++
	for _, v := range w.list {
		w.told++
		if !yield(v) {
			w.left++
			return
		}
	}
	w.wasAllSeen++
}

// watch looks at some lists, as sequences.
func watch(lists [][]api.Version) ([]*watched, []versions) {
	var w []*watched
	var l []versions
	for _, list := range lists {
		x := &watched{list: list}
		w, l = append(w, x), append(l, x.all)
	}
	return w, l
}

// checkWatched asks whether a sequence was gone through once, just so far, and is left by now, or at its end.
func checkWatched(t *testing.T, what string, w *watched, told int) {
	t.Helper()
	if w.begun != 1 || w.told != told || w.left+w.wasAllSeen != 1 {
		t.Errorf("%s: begun %d times, %d versions taken, left %d times, through %d times; want %d versions, once", what, w.begun, w.told, w.left, w.wasAllSeen, told)
	}
	*w = watched{list: w.list}
}

// first are the first ones that a sequence tells, which is left with the last of them.
func first[T any](s iter.Seq[T], most int) []T {
	var l []T
	if most == 0 {
		return nil
	}
	for x := range s {
		l = append(l, x)
		if len(l) == most {
			break
		}
	}
	return l
}

func checkList(t *testing.T, what string, got, want []api.Version) {
	t.Helper()
	if !slices.Equal(got, want) {
		t.Errorf("%s: %v, want %v", what, got, want)
	}
}

func checkMerge(t *testing.T, lists [][]api.Version) {
	t.Helper()
	want, _ := merged(lists, -1)
	if got := slices.Collect(merge.Merge(rows(lists)...)); !slices.Equal(got, want) {
		t.Errorf("Merge of %v: %v, want %v", lists, got, want)
	}
}

// lists are all lists of these versions with at most so many.
func lists(most int, of ...api.Version) [][]api.Version {
	l := [][]api.Version{nil}
	for from := 0; most > 0; most-- {
		to := len(l)
		for _, x := range l[from:to] {
			for _, v := range of {
				l = append(l, append(slices.Clone(x), v))
			}
		}
		from = to
	}
	return l
}

// anyList is a list of any versions of a few places; inOrder one of such as stand in order.
func anyList(r *rand.Rand, most int) []api.Version {
	var l []api.Version
	for range r.Intn(most + 1) {
		v := gets([]string{"", "\x00", "a", "a\x00", "aa", "b", "\xff"}[r.Intn(7)], []uint64{0, 1, 2, 3, 4, 5, api.MaxSeq, math.MaxUint64}[r.Intn(8)], of("v", r.Intn(9)))
		v.Del = r.Intn(3) == 0 // with a value as well: no version is asked whether it may be
		l = append(l, v)
	}
	return l
}

func inOrder(r *rand.Rand, most int) []api.Version {
	l := anyList(r, most)
	slices.SortFunc(l, func(a, b api.Version) int {
		switch {
		case standsAhead(a, b):
			return -1
		case standsAhead(b, a):
			return 1
		}
		return 0
	})
	return slices.CompactFunc(l, onePlace)
}

// some are lists in order that have keys and places in common.
func some() [][]api.Version {
	return [][]api.Version{
		{gets("a", 9, "x"), gets("b", 5, "one"), del("c", 3), gets("e", 1, "")}, {}, {gets("a", 10, "y"), gets("a", 9, "z"), gets("b", 5, "two"), gets("b", 4, "w")},
		{del("b", 5), gets("d", 2, "q")}, {del("a", 9)},
	}
}

// P9.1
func TestMerge(t *testing.T) {
	for _, c := range []struct {
		lists [][]api.Version
		want  []api.Version
	}{
		{nil, nil}, {[][]api.Version{nil}, nil}, {[][]api.Version{nil, nil, nil}, nil},
		{[][]api.Version{{gets("a", 3, ""), gets("b", 1, "")}, {gets("a", 5, ""), gets("a", 3, ""), gets("c", 2, "")}}, []api.Version{gets("a", 5, ""), gets("a", 3, ""), gets("b", 1, ""), gets("c", 2, "")}},
		{[][]api.Version{{gets("b", 1, "")}, {gets("a", 1, "")}}, []api.Version{gets("a", 1, ""), gets("b", 1, "")}},
		{[][]api.Version{{gets("a", 1, "")}, {gets("a", 2, "")}}, []api.Version{gets("a", 2, ""), gets("a", 1, "")}},
		{some(), []api.Version{gets("a", 10, "y"), gets("a", 9, "x"), gets("b", 5, "one"), gets("b", 4, "w"), del("c", 3), gets("d", 2, "q"), gets("e", 1, "")}},
		{[][]api.Version{{gets("a", 1, "one")}, {gets("a", 1, "two")}, {del("a", 1)}}, []api.Version{gets("a", 1, "one")}}, // of one place the first sequence's
		{[][]api.Version{{del("a", 1)}, {gets("a", 1, "two")}}, []api.Version{del("a", 1)}},
		{[][]api.Version{{gets("z", 1, "")}, {gets("a", 1, "two")}, {gets("a", 1, "three")}}, []api.Version{gets("a", 1, "two"), gets("z", 1, "")}},
	} {
		checkList(t, "Merge", slices.Collect(merge.Merge(rows(c.lists)...)), c.want)
		checkMerge(t, c.lists)
	}
}

// P9.1: no version is asked whether it may be, and no sequence whether it is in order.
func TestMergeOfWhatMayNotBe(t *testing.T) {
	long := gets(of("k", 1000), math.MaxUint64, of("v", 20000))
	full := api.Version{Key: "a", Seq: 1, Del: true, Value: "full"}
	for _, c := range []struct {
		lists [][]api.Version
		want  []api.Version
	}{
		{[][]api.Version{{{}}, {{}, gets("", 0, "v")}}, []api.Version{{}, gets("", 0, "v")}}, // a version of noughts stands for no end
		{[][]api.Version{{{}, {}, {}}}, []api.Version{{}, {}, {}}},
		{[][]api.Version{{long}, {full}}, []api.Version{full, long}},
		{[][]api.Version{{gets("c", 1, ""), gets("a", 1, "")}, {gets("b", 1, "")}}, []api.Version{gets("b", 1, ""), gets("c", 1, ""), gets("a", 1, "")}},
		{[][]api.Version{{gets("a", 1, ""), gets("a", 2, "")}, {gets("a", 1, "x"), gets("a", 1, "y"), gets("a", 2, "z")}}, []api.Version{gets("a", 1, ""), gets("a", 2, ""), gets("a", 1, "y"), gets("a", 2, "z")}},
		{[][]api.Version{{gets("a", 1, "x"), gets("a", 1, "y")}, {gets("a", 1, "z")}}, []api.Version{gets("a", 1, "x"), gets("a", 1, "y")}}, // each goes on by one
	} {
		checkList(t, "Merge", slices.Collect(merge.Merge(rows(c.lists)...)), c.want)
		checkMerge(t, c.lists)
	}
}

// P9.1: all of three lists of at most two versions, in order or not.
func TestMergeOfAllShortLists(t *testing.T) {
	short := func(value string) [][]api.Version { // whose a version is can be seen
		return lists(2, gets("a", 1, value), gets("a", 2, value), gets("b", 1, value))
	}
	for _, a := range short("one") {
		for _, b := range short("two") {
			for _, c := range short("three") {
				checkMerge(t, [][]api.Version{a, b, c})
			}
		}
	}
}

// P9.1, P9.5: any lists, in order or not; of such in order it is in order.
func TestAnyMerge(t *testing.T) {
	r := rand.New(rand.NewSource(91))
	for range 2000 {
		var any, ordered [][]api.Version
		for range r.Intn(6) {
			any, ordered = append(any, anyList(r, 12)), append(ordered, inOrder(r, 12))
		}
		checkMerge(t, any)
		checkMerge(t, ordered)
		l := slices.Collect(merge.Merge(rows(ordered)...))
		for i := 1; i < len(l); i++ {
			if !standsAhead(l[i-1], l[i]) {
				t.Errorf("Merge of lists in order: %v", l)
			}
		}
		for _, list := range ordered {
			for _, v := range list {
				if !slices.ContainsFunc(l, func(x api.Version) bool { return onePlace(x, v) }) {
					t.Errorf("Merge has not %v", v)
				}
			}
		}
	}
}

// P9.1: many sequences, and merges of merges.
func TestMergeOfMany(t *testing.T) {
	r := rand.New(rand.NewSource(92))
	var all [][]api.Version
	for range 300 {
		all = append(all, inOrder(r, 5))
	}
	checkMerge(t, all)
	want, _ := merged(all, -1)
	var halves []versions
	for len(all) > 0 {
		halves = append(halves, merge.Merge(rows(all[:30])...))
		all = all[30:]
	}
	checkList(t, "Merge of merges", slices.Collect(merge.Merge(halves...)), want)
}

// Nil sequences have no versions.
func TestMergeOfNil(t *testing.T) {
	checkList(t, "Merge of a nil", slices.Collect(merge.Merge(nil)), nil)
	checkList(t, "Merge of nils", slices.Collect(merge.Merge(nil, nil, nil)), nil)
	l := []versions(nil)
	checkList(t, "Merge of a nil list", slices.Collect(merge.Merge(l...)), nil)
	want, _ := merged(some(), -1)
	for i := range len(some()) + 1 {
		checkList(t, "Merge with a nil", slices.Collect(merge.Merge(slices.Insert(rows(some()), i, nil)...)), want)
	}
}

// Sequences are gone through just as far as it takes, once a range, and are left when that is.
func TestMergeGoesNoFurther(t *testing.T) {
	r := rand.New(rand.NewSource(93))
	for n := range 200 {
		all := some()
		if n > 0 {
			all = nil
			for range 1 + r.Intn(5) {
				all = append(all, anyList(r, 8))
			}
		}
		looked, seqs := watch(all)
		s := merge.Merge(seqs...)
		for i, w := range looked {
			if w.begun != 0 {
				t.Errorf("Merge goes through the sequence %d ahead of any range", i)
			}
		}
		whole, _ := merged(all, -1)
		for most := 1; most <= len(whole)+1; most++ {
			want, taken := merged(all, most)
			checkList(t, "the first ones of Merge", first(s, most), want)
			for i, w := range looked {
				checkWatched(t, "Merge", w, taken[i])
			}
		}
	}
}

// What was taken is told ahead of taking more, from each sequence.
func TestMergeTellsAheadOfTaking(t *testing.T) {
	looked, seqs := watch(some())
	n := 0
	for range merge.Merge(seqs...) {
		n++
		_, taken := merged(some(), n)
		for i, w := range looked {
			if w.told != taken[i] {
				t.Errorf("Merge, at its version %d: %d of the sequence %d are taken, want %d", n, w.told, i, taken[i])
			}
		}
	}
}

// endless has a key's versions, and no last one of them.
func endless(key string, step uint64) versions {
	return func(yield func(api.Version) bool) {
		for seq := uint64(math.MaxUint64); yield(gets(key, seq, "")); seq -= step {
		}
	}
}

func TestMergeOfEndlessSequences(t *testing.T) {
	got := first(merge.Merge(endless("a", 3), row(gets("a", math.MaxUint64-1, "x")), endless("a", 2), endless("b", 1)), 1000)
	want := []api.Version{gets("a", math.MaxUint64, ""), gets("a", math.MaxUint64-1, "x")}
	for n := uint64(2); len(want) < 1000; n++ {
		if n%2 == 0 || n%3 == 0 {
			want = append(want, gets("a", math.MaxUint64-n, ""))
		}
	}
	checkList(t, "Merge of endless sequences", got, want)
}

// A sequence that can be gone through only once is gone through once.
func TestMergeOfWhatIsThereOnce(t *testing.T) {
	want, _ := merged(some(), -1)
	var seqs []versions
	for _, l := range some() {
		seqs = append(seqs, func(yield func(api.Version) bool) {
			for len(l) > 0 {
				v := l[0]
				l = l[1:]
				if !yield(v) {
					return
				}
			}
		})
	}
	s := merge.Merge(seqs...)
	checkList(t, "Merge", slices.Collect(s), want)
	checkList(t, "Merge of what is gone", slices.Collect(s), nil)
}

// Each range goes through it anew, also in one another.
func TestMergeIsRangedOverAgain(t *testing.T) {
	want, _ := merged(some(), -1)
	s := merge.Merge(rows(some())...)
	for range s {
		checkList(t, "Merge within itself", slices.Collect(s), want)
	}
	for most := range len(want) + 1 {
		checkList(t, "the first ones of Merge", first(s, most), want[:most])
		checkList(t, "Merge, once more", slices.Collect(s), want)
	}
	same := row(some()[0]...)
	checkList(t, "Merge of one with itself", slices.Collect(merge.Merge(same, same, same)), some()[0])
}

// R3, R4: the list of sequences isn't kept, nor written into.
func TestMergeKeepsNoList(t *testing.T) {
	want, _ := merged(some(), -1)
	l := append(rows(some()), row(gets("spare", 1, "")))[:len(some())]
	s := merge.Merge(l...)
	checkList(t, "Merge", slices.Collect(s), want)
	for i, x := range l {
		checkList(t, "a sequence that was handed in", slices.Collect(x), some()[i])
	}
	checkList(t, "the spare room", slices.Collect(l[:len(l)+1][len(l)]), []api.Version{gets("spare", 1, "")})
	clear(l)
	checkList(t, "Merge, its list cleared", slices.Collect(s), want)
}

// spoil writes into a text's own memory: whoever shares it sees that.
func spoil(s string) {
	b := unsafe.Slice(unsafe.StringData(s), len(s))
	for i := range b {
		b[i] = '!'
	}
}

// lent is a text in memory that may be spoiled.
func lent(s string) string {
	b := []byte(s)
	return unsafe.String(unsafe.SliceData(b), len(b))
}

// fleeting is a sequence whose versions' memory is spoiled as soon as they were taken.
func fleeting(l []api.Version) versions {
	return func(yield func(api.Version) bool) {
		for _, v := range l {
			v.Key, v.Value = lent(v.Key), lent(v.Value)
			more := yield(v)
			spoil(v.Key)
			spoil(v.Value)
			if !more {
				return
			}
		}
	}
}

// spoiled is what a sequence tells, when all that it told is spoiled as soon as it was looked at.
func spoiled(s versions) []api.Version {
	var l []api.Version
	for v := range s {
		l = append(l, gets(strings.Clone(v.Key), v.Seq, strings.Clone(v.Value)))
		l[len(l)-1].Del = v.Del
		spoil(v.Key)
		spoil(v.Value)
	}
	return l
}

// R3: what is told is new memory, and what was taken isn't kept.
func TestMergeSharesNoMemory(t *testing.T) {
	want, _ := merged(some(), -1)
	var from []versions
	for _, l := range some() {
		from = append(from, fleeting(l))
	}
	checkList(t, "Merge", spoiled(merge.Merge(from...)), want)
	var l [][]api.Version
	for _, list := range some() {
		for i, v := range list {
			list[i].Key, list[i].Value = lent(v.Key), lent(v.Value)
		}
		l = append(l, list)
	}
	for range 2 {
		checkList(t, "Merge of what was told ahead", spoiled(merge.Merge(rows(l)...)), want)
	}
}

// broken is a sequence that panics behind some versions.
func broken(l ...api.Version) versions {
	return func(yield func(api.Version) bool) {
		for _, v := range l {
			if !yield(v) {
				return
			}
		}
		panic("broken")
	}
}

// stubborn is one that goes on when it is left.
func stubborn(l ...api.Version) versions {
	return func(yield func(api.Version) bool) {
		for _, v := range l {
			yield(v)
		}
	}
}

// R1: a sequence that panics has no more.
func TestMergeOfBrokenSequences(t *testing.T) {
	a, b := []api.Version{gets("a", 5, "x"), gets("c", 1, "")}, []api.Version{gets("a", 6, "y"), gets("b", 1, ""), gets("d", 2, "")}
	want, _ := merged([][]api.Version{a, b}, -1)
	for _, s := range []versions{merge.Merge(broken(a...), row(b...)), merge.Merge(row(a...), broken(b...)), merge.Merge(broken(), broken(a...), broken(b...)), merge.Merge(stubborn(a...), stubborn(b...))} {
		for most := range len(want) + 1 {
			checkList(t, "the first ones of Merge", first(s, most), want[:most])
		}
		checkList(t, "Merge", slices.Collect(s), want)
	}
}

// caught is what a function panics with.
func caught(f func()) (reason any) {
	defer func() { reason = recover() }()
	f()
	return nil
}

// A panic of who ranges is no panic of a sequence: it goes on, and all sequences are left.
func TestPanicInARangeOverMerge(t *testing.T) {
	looked, seqs := watch(some())
	n := 0
	reason := caught(func() {
		for range merge.Merge(seqs...) {
			if n++; n == 3 {
				panic("mine")
			}
		}
	})
	if reason != "mine" || n != 3 {
		t.Errorf("a panic in a range: %v at %d", reason, n)
	}
	_, taken := merged(some(), 3)
	for i, w := range looked {
		checkWatched(t, "Merge", w, taken[i])
	}
}

// No worker is left behind when a range is.
func TestMergeLeavesNoWorkers(t *testing.T) {
	before := runtime.NumGoroutine()
	s := merge.Merge(append(rows(some()), nil, broken(), endless("z", 1))...)
	for range 50 {
		for most := range 10 {
			first(s, most)
		}
		caught(func() {
			for range s {
				panic("mine")
			}
		})
	}
	for wait := 0; runtime.NumGoroutine() > before && wait < 1000; wait++ { // the last one may just be ending
		time.Sleep(time.Millisecond)
	}
	if now := runtime.NumGoroutine(); now > before {
		t.Errorf("%d goroutines, want %d", now, before)
	}
}

// What one sequence touches the others may touch, too: they never run at one time.
func TestMergeTakesOneByOne(t *testing.T) {
	running, steps := false, 0
	begins := func() {
		if running {
			t.Error("two sequences run at one time")
		}
		running = true
		steps++
		runtime.Gosched()
	}
	var seqs []versions
	for _, l := range some() {
		seqs = append(seqs, func(yield func(api.Version) bool) {
			begins()
			defer func() { running = false }()
			for _, v := range l {
				running = false
				more := yield(v)
				begins()
				if !more {
					return
				}
			}
		})
	}
	for range 100 {
		for n := range 8 {
			first(merge.Merge(seqs...), n+1)
		}
	}
	if running || steps == 0 {
		t.Errorf("behind all ranges one still runs: %t, behind %d steps", running, steps)
	}
}

// P9.1: memtables as sequences.
func TestMergeOfTables(t *testing.T) {
	r := rand.New(rand.NewSource(94))
	var all [][]api.Version
	var from []versions
	for range 4 {
		mem := memtable.New()
		for range 200 {
			v := gets(string(rune('a'+r.Intn(20))), uint64(1+r.Intn(60)), of("v", r.Intn(5)))
			mem.Add(v, memtable.Height(1, v.Seq))
		}
		all, from = append(all, slices.Collect(mem.From("c"))), append(from, mem.From("c"))
	}
	want, _ := merged(all, -1)
	checkList(t, "Merge of tables", slices.Collect(merge.Merge(from...)), want)
}
