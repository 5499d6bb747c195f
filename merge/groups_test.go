package merge_test

import (
	"fmt"
	"iter"
	"math"
	"math/rand"
	"slices"
	"testing"

	"tapestry/api"
	"tapestry/memtable"
	"tapestry/merge"
)

// grouped are the groups of a list.
func grouped(l []api.Version) [][]api.Version {
	var groups [][]api.Version
	for i, v := range l {
		if i == 0 || l[i-1].Key != v.Key {
			groups = append(groups, nil)
		}
		groups[len(groups)-1] = append(groups[len(groups)-1], v)
	}
	return groups
}

// kept is what Keep is said to tell of a list.
func kept(l []api.Version, floors []uint64, bottom bool) []api.Version {
	var told []api.Version
	for _, group := range grouped(l) {
		var left []api.Version
		for i, v := range group {
			if i == 0 || slices.ContainsFunc(floors, func(f uint64) bool { return f >= v.Seq && f < group[i-1].Seq }) {
				left = append(left, v)
			}
		}
		for bottom && len(left) > 0 && left[len(left)-1].Del {
			left = left[:len(left)-1]
		}
		told = append(told, left...)
	}
	return told
}

// paired is what Pairs is said to tell of a list.
func paired(l []api.Version, seq uint64, lo, hi string) []api.Pair {
	if end := slices.IndexFunc(l, func(v api.Version) bool { return hi != "" && v.Key >= hi }); end >= 0 {
		l = l[:end]
	}
	var told []api.Pair
	for _, group := range grouped(l) {
		i := slices.IndexFunc(group, func(v api.Version) bool { return v.Seq <= seq })
		if group[0].Key >= lo && i >= 0 && !group[i].Del {
			told = append(told, api.Pair{Key: group[i].Key, Value: group[i].Value})
		}
	}
	return told
}

// pieces is what Cut is said to tell of a list.
func pieces(l []api.Version, bytes int) [][]api.Version {
	var told [][]api.Version
	begin, size := 0, 0
	for i, v := range l {
		size += len(v.Key) + len(v.Value) + 16
		last := i == len(l)-1
		if last || l[i+1].Key != v.Key && size >= bytes {
			told = append(told, l[begin:i+1])
			begin, size = i+1, 0
		}
	}
	return told
}

func checkKeep(t *testing.T, l []api.Version, floors []uint64, bottom bool) {
	t.Helper()
	if got, want := slices.Collect(merge.Keep(row(l...), floors, bottom)), kept(l, floors, bottom); !slices.Equal(got, want) {
		t.Errorf("Keep(%v, %v, %t): %v, want %v", l, floors, bottom, got, want)
	}
}

func checkPairs(t *testing.T, l []api.Version, seq uint64, lo, hi string) {
	t.Helper()
	if got, want := slices.Collect(merge.Pairs(row(l...), seq, lo, hi)), paired(l, seq, lo, hi); !slices.Equal(got, want) {
		t.Errorf("Pairs(%v, %d, %q, %q): %v, want %v", l, seq, lo, hi, got, want)
	}
}

func sameLists(a, b [][]api.Version) bool { return slices.EqualFunc(a, b, slices.Equal) }

func checkCut(t *testing.T, l []api.Version, bytes int) {
	t.Helper()
	if got, want := slices.Collect(merge.Cut(row(l...), bytes)), pieces(l, bytes); !sameLists(got, want) {
		t.Errorf("Cut(%v, %d): %v, want %v", l, bytes, got, want)
	}
}

// mixed is a list in order, of groups with Dels at several places in them.
func mixed() []api.Version {
	return []api.Version{
		gets("a", 9, "x"), gets("a", 7, "y"), del("a", 5), gets("a", 2, "z"), del("b", 8), del("b", 6), gets("b", 4, "w"), del("b", 3), del("b", 1), gets("c", 6, ""), del("d", 7),
	}
}

// P9.2
func TestKeep(t *testing.T) {
	few := []api.Version{gets("a", 9, ""), gets("a", 5, ""), gets("a", 4, ""), gets("a", 1, ""), del("b", 7)}
	dels := []api.Version{del("a", 9), del("a", 5)}
	for _, c := range []struct {
		list   []api.Version
		floors []uint64
		bottom bool
		want   []api.Version
	}{
		{few, []uint64{5, 2}, false, []api.Version{gets("a", 9, ""), gets("a", 5, ""), gets("a", 1, ""), del("b", 7)}},
		{few, []uint64{5, 2}, true, []api.Version{gets("a", 9, ""), gets("a", 5, ""), gets("a", 1, "")}},
		{few, nil, false, []api.Version{gets("a", 9, ""), del("b", 7)}}, {few, nil, true, []api.Version{gets("a", 9, "")}},
		{few, []uint64{4}, false, []api.Version{gets("a", 9, ""), gets("a", 4, ""), del("b", 7)}},
		{few, []uint64{8}, false, []api.Version{gets("a", 9, ""), gets("a", 5, ""), del("b", 7)}}, {few, []uint64{9}, false, []api.Version{gets("a", 9, ""), del("b", 7)}},
		{few, []uint64{1, 8, 1, 4, 8}, false, few}, {few, []uint64{0, math.MaxUint64}, false, []api.Version{gets("a", 9, ""), del("b", 7)}},
		{dels, []uint64{6}, false, dels}, {dels, []uint64{6}, true, nil}, {dels, []uint64{4}, true, nil}, {dels, nil, true, nil},
		{mixed(), []uint64{6}, true, []api.Version{gets("a", 9, "x"), gets("c", 6, "")}},
		{mixed(), []uint64{6, 2}, true, []api.Version{gets("a", 9, "x"), del("a", 5), gets("a", 2, "z"), gets("c", 6, "")}},
		{mixed(), []uint64{5, 7, 4, 3}, true, []api.Version{gets("a", 9, "x"), gets("a", 7, "y"), del("a", 5), gets("a", 2, "z"), del("b", 8), del("b", 6), gets("b", 4, "w"), gets("c", 6, "")}},
		{nil, []uint64{1}, false, nil}, {nil, nil, true, nil},
	} {
		checkList(t, "Keep", slices.Collect(merge.Keep(row(c.list...), c.floors, c.bottom)), c.want)
		checkKeep(t, c.list, c.floors, c.bottom)
	}
}

// P9.2: no version is asked whether it may be, nor whether it stands in order.
func TestKeepOfWhatMayNotBe(t *testing.T) {
	full := api.Version{Key: "a", Seq: 1, Del: true, Value: "full"}
	for _, l := range [][]api.Version{
		{{}}, {{}, {}}, {{Del: true}, {Del: true}}, {full}, {gets("a", 2, ""), full}, {full, gets("a", 2, "")}, {gets("", 1, "x"), gets("", 0, "y"), gets("a", 0, "")},
		{gets("a", 1, ""), gets("a", 2, ""), gets("a", 1, ""), gets("a", 3, "")}, {gets("a", 5, ""), gets("a", 2, ""), gets("a", 4, ""), gets("a", 1, "")}, // the version ahead, not the least one ahead
		{gets("b", 5, ""), gets("a", 5, ""), gets("b", 5, ""), gets("b", 4, "")}, // two groups of one Key
		{gets("a", math.MaxUint64, ""), gets("a", 0, ""), gets("a", math.MaxUint64, ""), gets("a", 1, "")}, {gets(of("k", 1000), math.MaxUint64, of("v", 20000))},
	} {
		for _, floors := range [][]uint64{nil, {0}, {1}, {2}, {3}, {4}, {5}, {1, 3}, {0, 2, 4}, {math.MaxUint64}, {math.MaxUint64 - 1}, {3, 0, 3, math.MaxUint64, 1}} {
			checkKeep(t, l, floors, false)
			checkKeep(t, l, floors, true)
		}
	}
}

// P9.2: all lists of at most four versions of a key, and of at most three of two keys, with all floors.
func TestKeepOfAllShortLists(t *testing.T) {
	one := lists(4, gets("a", 1, ""), gets("a", 2, ""), gets("a", 3, ""), del("a", 1), del("a", 2), del("a", 3))
	two := lists(3, gets("a", 1, ""), gets("a", 2, ""), del("a", 1), del("a", 2), gets("b", 1, ""), del("b", 1), del("b", 2))
	for _, l := range append(one, two...) {
		for set := range 16 {
			var floors []uint64
			for f := range uint64(4) {
				if set>>f&1 == 1 {
					floors = append(floors, f)
				}
			}
			checkKeep(t, l, floors, false)
			checkKeep(t, l, floors, true)
		}
	}
}

// anyFloors are such as may lie at any place among a list's sequence numbers.
func anyFloors(r *rand.Rand) []uint64 {
	var floors []uint64
	for range r.Intn(6) {
		floors = append(floors, []uint64{0, 1, 2, 3, 4, 5, 6, api.MaxSeq - 1, api.MaxSeq, math.MaxUint64}[r.Intn(10)])
	}
	return floors
}

// P9.2 to P9.4: any lists, in order or not.
func TestAnyGroups(t *testing.T) {
	r := rand.New(rand.NewSource(95))
	keys := []string{"", "\x00", "a", "a\x00", "aa", "ab", "b", "\xff", "\xff\xff"}
	for range 5000 {
		for _, l := range [][]api.Version{anyList(r, 20), inOrder(r, 40)} {
			checkKeep(t, l, anyFloors(r), r.Intn(2) == 0)
			checkPairs(t, l, append(anyFloors(r), 5)[0], keys[r.Intn(9)], keys[r.Intn(9)])
			checkCut(t, l, r.Intn(120)-10)
		}
	}
}

// P9.3
func TestPairs(t *testing.T) {
	few := []api.Version{del("a", 9), gets("a", 5, "x"), gets("b", 2, "y")}
	x, y := api.Pair{Key: "a", Value: "x"}, api.Pair{Key: "b", Value: "y"}
	for _, c := range []struct {
		seq    uint64
		lo, hi string
		want   []api.Pair
	}{
		{6, "", "", []api.Pair{x, y}}, {9, "", "", []api.Pair{y}}, {8, "", "", []api.Pair{x, y}}, {5, "", "", []api.Pair{x, y}}, {4, "", "", []api.Pair{y}},
		{2, "", "", []api.Pair{y}}, {1, "", "", nil}, {0, "", "", nil}, {math.MaxUint64, "", "", []api.Pair{y}},
		{6, "a", "", []api.Pair{x, y}}, {6, "a\x00", "", []api.Pair{y}}, {6, "b", "", []api.Pair{y}}, {6, "b\x00", "", nil}, {6, of("\xff", 200), "", nil},
		{6, "", "b", []api.Pair{x}}, {6, "", "b\x00", []api.Pair{x, y}}, {6, "", "a", nil}, {6, "", "a\x00", []api.Pair{x}}, {6, "", "\x00", nil},
		{6, "a", "b", []api.Pair{x}}, {6, "b", "a", nil}, {6, "b", "b", nil}, {6, "a", "a", nil}, {6, "a", "a\x00", []api.Pair{x}},
	} {
		if got := slices.Collect(merge.Pairs(row(few...), c.seq, c.lo, c.hi)); !slices.Equal(got, c.want) {
			t.Errorf("Pairs at %d, %q, %q: %v, want %v", c.seq, c.lo, c.hi, got, c.want)
		}
		checkPairs(t, few, c.seq, c.lo, c.hi)
	}
}

// P9.3: the first version of a group that is old enough, whether it is the newest or not; a range that ends at a Key, whatever follows.
func TestPairsOfWhatMayNotBe(t *testing.T) {
	full := api.Version{Key: "a", Seq: 1, Del: true, Value: "full"}
	for _, l := range [][]api.Version{
		{{}}, {{}, {}}, {gets("", 0, "x"), gets("", 0, "y"), gets("a", 0, "z")}, {full}, {gets("a", 2, "x"), full}, {full, gets("a", 1, "x")}, {gets("a", 3, "x"), full, gets("a", 0, "y")},
		{gets("a", 1, "x"), gets("a", 2, "y"), gets("a", 3, "z")}, {gets("a", 4, "x"), gets("a", 1, "y"), gets("a", 3, "z")}, {gets("a", math.MaxUint64, "x")},
		{gets("a", 1, "x"), gets("b", 1, "y"), gets("a", 1, "z")}, {gets("c", 1, "x"), gets("a", 1, "y")}, {gets("a", 1, "x"), gets("c", 9, "y"), gets("a", 1, "z"), gets("b", 1, "w")}, // it ends at the c, which isn't seen
		{gets(of("k", 1000), 1, of("v", 20000))},
	} {
		for _, seq := range []uint64{0, 1, 2, 3, 4, math.MaxUint64 - 1, math.MaxUint64} {
			for _, lo := range []string{"", "a", "a\x00", "b", "c"} {
				for _, hi := range []string{"", "a", "b", "c", "\xff"} {
					checkPairs(t, l, seq, lo, hi)
				}
			}
		}
	}
}

// P9.4
func TestCut(t *testing.T) {
	few := []api.Version{gets("a", 2, ""), gets("a", 1, ""), gets("b", 1, ""), gets("c", 1, "")} // 17 bytes each
	for _, c := range []struct {
		bytes int
		want  []int // how many versions each list has
	}{
		{34, []int{2, 2}}, {35, []int{3, 1}}, {33, []int{2, 2}}, {18, []int{2, 2}}, {17, []int{2, 1, 1}}, {16, []int{2, 1, 1}}, {1, []int{2, 1, 1}}, {0, []int{2, 1, 1}}, {-1, []int{2, 1, 1}},
		{51, []int{3, 1}}, {52, []int{4}}, {68, []int{4}}, {69, []int{4}}, {math.MinInt, []int{2, 1, 1}}, {math.MaxInt, []int{4}},
	} {
		var got []int
		for list := range merge.Cut(row(few...), c.bytes) {
			got = append(got, len(list))
		}
		if !slices.Equal(got, c.want) {
			t.Errorf("Cut by %d: %v versions, want %v", c.bytes, got, c.want)
		}
		checkCut(t, few, c.bytes)
		checkCut(t, nil, c.bytes)
	}
}

// P9.4: a version's bytes are those of its Key and its Value, and 16; a Del's, too, and such as may not be.
func TestCutCountsBytes(t *testing.T) {
	for _, v := range []api.Version{gets("key", 1, ""), gets("key", 1, "value"), del("key", 1), {}, {Key: "k", Del: true, Value: "full"}, gets(of("k", 1000), math.MaxUint64, of("v", 20000))} {
		next, size := gets(v.Key+"x", 1, ""), len(v.Key)+len(v.Value)+16
		for bytes, want := range map[int][][]api.Version{size - 1: {{v}, {next}}, size: {{v}, {next}}, size + 1: {{v, next}}} {
			if got := slices.Collect(merge.Cut(row(v, next), bytes)); !sameLists(got, want) {
				t.Errorf("Cut of %d bytes by %d: %d lists", size, bytes, len(got))
			}
		}
		old := gets(v.Key, 0, "") // of one group: they stay together
		if got := slices.Collect(merge.Cut(row(v, old, next), 1)); !sameLists(got, [][]api.Version{{v, old}, {next}}) {
			t.Errorf("Cut of a group of two: %d lists", len(got))
		}
	}
	for _, l := range lists(5, gets("a", 1, ""), gets("a", 1, of("v", 16)), gets("b", 1, "")) { // two groups of one Key, too
		for bytes := -1; bytes < 120; bytes++ {
			checkCut(t, l, bytes)
		}
	}
}

// call is one with a sequence.
type call struct {
	name   string
	run    func(s versions, use func(string)) iter.Seq[string] // what it tells, item by item as text; use is given each text that an item has
	tells  func(l []api.Version) []string                      // what it is said to tell of a list
	ends   func(l []api.Version) int                           // how many versions of a list are taken in all
	beyond int                                                 // so many further items have to be begun by then, for that one is known to be at its end
}

// asTexts tells a sequence's items as texts.
func asTexts[T any](s iter.Seq[T], texts func(T) []string, use func(string)) iter.Seq[string] {
	return func(yield func(string) bool) {
		for x := range s {
			text := fmt.Sprint(x)
			for _, s := range texts(x) {
				use(s)
			}
			if !yield(text) {
				return
			}
		}
	}
}

func textsOf(v api.Version) []string { return []string{v.Key, v.Value} }

func textsOfPair(p api.Pair) []string { return []string{p.Key, p.Value} }

func textsOfList(l []api.Version) []string {
	var texts []string
	for _, v := range l {
		texts = append(texts, textsOf(v)...)
	}
	return texts
}

// allTexts are a list's items as texts.
func allTexts[T any](l []T) []string {
	var texts []string
	for _, x := range l {
		texts = append(texts, fmt.Sprint(x))
	}
	return texts
}

func keepCall(floors []uint64, bottom bool) call {
	return call{
		name: fmt.Sprintf("Keep, %v, %t", floors, bottom),
		run: func(s versions, use func(string)) iter.Seq[string] {
			return asTexts(merge.Keep(s, floors, bottom), textsOf, use)
		},
		tells: func(l []api.Version) []string { return allTexts(kept(l, floors, bottom)) },
		ends:  func(l []api.Version) int { return len(l) },
	}
}

func pairsCall(seq uint64, lo, hi string) call {
	return call{
		name: fmt.Sprintf("Pairs, %d, %q, %q", seq, lo, hi),
		run: func(s versions, use func(string)) iter.Seq[string] {
			return asTexts(merge.Pairs(s, seq, lo, hi), textsOfPair, use)
		},
		tells: func(l []api.Version) []string { return allTexts(paired(l, seq, lo, hi)) },
		ends: func(l []api.Version) int {
			if end := slices.IndexFunc(l, func(v api.Version) bool { return hi != "" && v.Key >= hi }); end >= 0 {
				return end + 1
			}
			return len(l)
		},
	}
}

func cutCall(bytes int) call {
	return call{
		name: fmt.Sprintf("Cut, %d", bytes),
		run: func(s versions, use func(string)) iter.Seq[string] {
			return asTexts(merge.Cut(s, bytes), textsOfList, use)
		},
		tells:  func(l []api.Version) []string { return allTexts(pieces(l, bytes)) },
		ends:   func(l []api.Version) int { return len(l) },
		beyond: 1,
	}
}

func calls() []call {
	return []call{
		keepCall(nil, false), keepCall(nil, true), keepCall([]uint64{6, 2}, false), keepCall([]uint64{6, 2}, true), keepCall([]uint64{1, 2, 3, 4, 5, 6, 7}, true),
		pairsCall(9, "", ""), pairsCall(5, "", ""), pairsCall(3, "a\x00", "c"), pairsCall(math.MaxUint64, "", "b"), pairsCall(9, "", "\x00"), cutCall(0), cutCall(20), cutCall(60), cutCall(math.MaxInt),
	}
}

// need is of how many versions of a list the first n items are known.
func (c call) need(l []api.Version, n int) int {
	for k := range l {
		if len(c.tells(l[:k])) >= n+c.beyond {
			return k
		}
	}
	return len(l)
}

func ignore(string) {}

func checkTexts(t *testing.T, what string, got, want []string) {
	t.Helper()
	if !slices.Equal(got, want) {
		t.Errorf("%s: %q, want %q", what, got, want)
	}
}

// A sequence is gone through just as far as it takes, once a range, and is left when that is.
func TestCallsGoNoFurther(t *testing.T) {
	r := rand.New(rand.NewSource(96))
	all := [][]api.Version{mixed(), nil}
	for range 200 {
		all = append(all, anyList(r, 12), inOrder(r, 30))
	}
	for _, l := range all {
		w := &watched{list: l}
		for _, c := range calls() {
			want, s := c.tells(l), c.run(w.all, ignore)
			if w.begun != 0 {
				t.Errorf("%s goes through the sequence ahead of any range", c.name)
			}
			checkTexts(t, c.name, slices.Collect(s), want)
			checkWatched(t, c.name, w, c.ends(l))
			for most := 1; most <= len(want); most++ {
				checkTexts(t, c.name, first(s, most), want[:most])
				checkWatched(t, c.name, w, c.need(l, most))
			}
		}
	}
}

func TestCallsOfEndlessSequences(t *testing.T) {
	turns := func(yield func(api.Version) bool) { // without an end, of two keys by turns
		for n := uint64(0); yield(gets([]string{"a", "b"}[n%2], n, "v")); n++ {
		}
	}
	for _, c := range []call{keepCall(nil, false), keepCall([]uint64{7}, true), pairsCall(math.MaxUint64, "", ""), cutCall(100)} {
		if got := len(first(c.run(turns, ignore), 100)); got != 100 {
			t.Errorf("%s of an endless sequence: %d items", c.name, got)
		}
	}
	falling := merge.Keep(endless("a", 1), []uint64{math.MaxUint64 - 5}, true)
	checkList(t, "Keep of an endless sequence", first(falling, 2), []api.Version{gets("a", math.MaxUint64, ""), gets("a", math.MaxUint64-5, "")})
	if got := slices.Collect(merge.Pairs(merge.Merge(row(gets("a", 1, "x")), endless("b", 1)), 9, "", "b")); !slices.Equal(got, []api.Pair{{Key: "a", Value: "x"}}) {
		t.Errorf("Pairs up to an endless group: %v", got)
	}
}

// Each range goes through it anew, also in one another; a nil sequence is one without versions.
func TestCallsAreRangedOverAgain(t *testing.T) {
	for _, c := range calls() {
		want, s := c.tells(mixed()), c.run(row(mixed()...), ignore)
		for range s {
			checkTexts(t, c.name+" within itself", slices.Collect(s), want)
		}
		for most := range len(want) + 1 {
			checkTexts(t, "the first ones of "+c.name, first(s, most), want[:most])
			checkTexts(t, c.name+", once more", slices.Collect(s), want)
		}
		for range 2 {
			checkTexts(t, c.name+" of a nil", slices.Collect(c.run(nil, ignore)), nil)
			checkTexts(t, c.name+" of none", slices.Collect(c.run(row(), ignore)), nil)
		}
	}
}

// R3: what is told is new memory, and what was taken isn't kept.
func TestCallsShareNoMemory(t *testing.T) {
	r := rand.New(rand.NewSource(97))
	for n := range 100 {
		l := mixed()
		if n > 0 {
			l = inOrder(r, 30)
		}
		for _, c := range calls() {
			checkTexts(t, c.name, slices.Collect(c.run(fleeting(l), spoil)), c.tells(l))
			lasting := slices.Clone(l)
			for i, v := range l {
				lasting[i].Key, lasting[i].Value = lent(v.Key), lent(v.Value)
			}
			for range 2 {
				checkTexts(t, c.name+" of what was told ahead", slices.Collect(c.run(row(lasting...), spoil)), c.tells(l))
			}
		}
	}
}

// R3, R4: floors and keys that are handed in aren't written into, nor kept.
func TestCallsKeepNoArguments(t *testing.T) {
	l, floors := mixed(), []uint64{6, 2, 7, 2, 0}
	keep := merge.Keep(row(l...), floors[:4], true)
	want := kept(l, []uint64{6, 2, 7}, true)
	checkList(t, "Keep", slices.Collect(keep), want)
	if !slices.Equal(floors, []uint64{6, 2, 7, 2, 0}) {
		t.Errorf("Keep has written into the floors: %v", floors)
	}
	clear(floors)
	checkList(t, "Keep, its floors cleared", slices.Collect(keep), want)
	for _, seen := range []struct{ lo, hi string }{{"b", "d"}, {"", "b"}, {"a\x00", ""}} {
		lo, hi := lent(seen.lo), lent(seen.hi)
		pairs, want := merge.Pairs(row(l...), 7, lo, hi), paired(l, 7, seen.lo, seen.hi)
		spoil(lo)
		spoil(hi)
		if got := slices.Collect(pairs); !slices.Equal(got, want) || len(want) == 0 {
			t.Errorf("Pairs from %q to %q, these spoiled: %v, want %v", seen.lo, seen.hi, got, want)
		}
	}
}

// R3: the lists of one answer share no memory, their spare room neither.
func TestCutSharesNoLists(t *testing.T) {
	for bytes := range 120 {
		want := pieces(mixed(), bytes)
		s := merge.Cut(row(mixed()...), bytes)
		i := 0
		for list := range s { // what is made of a list is not seen in the next one
			if !slices.Equal(list, want[i]) {
				t.Errorf("Cut by %d, list %d: %v, want %v", bytes, i, list, want[i])
			}
			clear(list[:cap(list)])
			i++
		}
		got := slices.Collect(s)
		for i := range got {
			_ = append(got[i], gets("z", 1, "new"))
			clear(got[i][len(got[i]):cap(got[i])])
		}
		if !sameLists(got, want) {
			t.Errorf("Cut by %d, the lists' spare room filled: %v, want %v", bytes, got, want)
		}
	}
}

// R1: a sequence that panics has no more; a panic of who ranges goes on, and the sequence is left.
func TestPanicsInCalls(t *testing.T) {
	l := mixed()
	for _, c := range calls() {
		want := c.tells(l)
		checkTexts(t, c.name+" of a broken sequence", slices.Collect(c.run(broken(l...), ignore)), want)
		checkTexts(t, c.name+" of one that is just broken", slices.Collect(c.run(broken(), ignore)), nil)
		for most := range len(want) + 1 {
			checkTexts(t, "the first ones of "+c.name+" of a stubborn sequence", first(c.run(stubborn(l...), ignore), most), want[:most])
		}
		if len(want) == 0 {
			continue
		}
		w := &watched{list: l}
		if reason := caught(func() {
			for range c.run(w.all, ignore) {
				panic("mine")
			}
		}); reason != "mine" {
			t.Errorf("%s, a panic in its range: %v", c.name, reason)
		}
		if w.begun != 1 || w.told != c.need(l, 1) {
			t.Errorf("%s, a panic in its range: begun %d times, %d versions taken", c.name, w.begun, w.told)
		}
	}
}

// P9.5: what is seen at the newest sequence number, or at a floor, is seen in what is kept; none of that twice.
func TestWhatIsKeptIsSeen(t *testing.T) {
	r := rand.New(rand.NewSource(98))
	for range 3000 {
		var from []versions
		for range r.Intn(4) {
			from = append(from, row(inOrder(r, 20)...))
		}
		all := merge.Merge(from...)
		floors := anyFloors(r)
		for _, bottom := range []bool{false, true} {
			keep := merge.Keep(all, floors, bottom)
			for _, seq := range append(floors, math.MaxUint64) {
				got, want := slices.Collect(merge.Pairs(keep, seq, "", "")), slices.Collect(merge.Pairs(all, seq, "", ""))
				if !slices.Equal(got, want) {
					t.Errorf("Pairs at %d of Keep(%v, %v, %t): %v, want %v", seq, slices.Collect(all), floors, bottom, got, want)
				}
			}
			l := slices.Collect(keep)
			for i := 1; i < len(l); i++ {
				if !standsAhead(l[i-1], l[i]) {
					t.Errorf("Keep of a sequence in order: %v", l)
				}
			}
			checkList(t, "Keep of what was kept", slices.Collect(merge.Keep(row(l...), floors, bottom)), l)
		}
	}
}

// All of it in a row, as tables are made of others.
func TestAllInARow(t *testing.T) {
	r := rand.New(rand.NewSource(99))
	a, b := memtable.New(), memtable.New()
	for seq := uint64(1); seq <= 2000; seq++ {
		v := gets(string(rune('a'+r.Intn(26)))+string(rune('a'+r.Intn(4))), seq, of("v", r.Intn(30)))
		if r.Intn(3) == 0 {
			v = del(v.Key, seq)
		}
		into := a
		if r.Intn(2) == 0 {
			into = b
		}
		if err := into.Add(v, memtable.Height(1, seq)); err != api.OK {
			t.Fatalf("Add: %d", err)
		}
	}
	floors := []uint64{400, 100, 1900}
	all := merge.Merge(a.From(""), b.From(""))
	var joined []api.Version
	for list := range merge.Cut(merge.Keep(all, floors, true), 300) {
		joined = append(joined, list...)
	}
	whole, _ := merged([][]api.Version{slices.Collect(a.From("")), slices.Collect(b.From(""))}, -1)
	checkList(t, "the lists, one behind the other", joined, kept(whole, floors, true))
	for _, seq := range append(floors, api.MaxSeq) {
		got, want := slices.Collect(merge.Pairs(row(joined...), seq, "c", "x")), paired(whole, seq, "c", "x")
		if !slices.Equal(got, want) || len(want) == 0 {
			t.Errorf("Pairs of the lists at %d: %d, want %d", seq, len(got), len(want))
		}
	}
}
