package memtable_test

import (
	"cmp"
	"math"
	"math/bits"
	"math/rand"
	"slices"
	"strings"
	"testing"
	"unsafe"

	"tapestry/api"
	"tapestry/codec"
	"tapestry/memtable"
)

// of are so many bytes, all alike.
func of(c string, n int) string { return strings.Repeat(c, n) }

// gets is a version that gives a key a value, del one that takes it out.
func gets(key string, seq uint64, value string) api.Version {
	return api.Version{Key: key, Seq: seq, Value: value}
}
func del(key string, seq uint64) api.Version { return api.Version{Key: key, Seq: seq, Del: true} }

// tall is a version and how high its tower is.
type tall struct {
	v      api.Version
	height int
}

// model is what a table is meant to be: its versions in order, with their heights.
type model []tall

// order holds two places against each other, as the chapter says it.
func order(a, b api.Version) int {
	return cmp.Or(strings.Compare(a.Key, b.Key), cmp.Compare(b.Seq, a.Seq))
}

func byOrder(a, b tall) int { return order(a.v, b.v) }

// add is what Add answers for a version that may be.
func (m *model) add(x tall) api.Errno {
	if slices.ContainsFunc(*m, func(y tall) bool { return order(x.v, y.v) == 0 }) {
		return api.ErrThere
	}
	*m = append(*m, x)
	slices.SortFunc(*m, byOrder)
	return api.OK
}

// those are the versions of which something holds, in order.
func (m model) those(holds func(tall) bool) []api.Version {
	var l []api.Version
	for _, x := range m {
		if holds(x) {
			l = append(l, x.v)
		}
	}
	return l
}

func (m model) from(key string) []api.Version {
	return m.those(func(x tall) bool { return x.v.Key >= key })
}

func (m model) level(level int) []api.Version {
	return m.those(func(x tall) bool { return level >= 0 && x.height > level })
}

func (m model) get(key string, seq uint64) (api.Version, bool) {
	l := m.those(func(x tall) bool { return x.v.Key == key && x.v.Seq <= seq })
	if l == nil {
		return api.Version{}, false
	}
	return slices.MaxFunc(l, func(a, b api.Version) int { return cmp.Compare(a.Seq, b.Seq) }), true
}

func (m model) bytes() int {
	n := 0
	for _, x := range m {
		n += 16 + len(x.v.Key) + len(x.v.Value)
	}
	return n
}

// steps goes along the levels' lists.
func (m model) steps(key string) int {
	at, steps := -1, 0
	for level := 7; level >= 0; level-- {
		for {
			next := at + 1
			for next < len(m) && m[next].height <= level {
				next++
			}
			if next == len(m) || m[next].v.Key >= key {
				break
			}
			at, steps = next, steps+1
		}
	}
	return steps
}

// table is one with these versions, added one by one, and its model.
func table(t *testing.T, l ...tall) (*memtable.Table, model) {
	t.Helper()
	x, m := memtable.New(), model(nil)
	for _, y := range l {
		checkErr(t, "Add", x.Add(y.v, y.height), api.OK)
		checkErr(t, "the model's add", m.add(y), api.OK)
	}
	return x, m
}

// some are versions of a few keys, of several heights.
func some() []tall {
	return []tall{
		{gets("b", 1, "x"), 1}, {gets("a", 2, ""), 2}, {del("b", 3), 1}, {gets("b", 7, "yy"), 8}, {gets("a\x00", 4, "z"), 3},
		{gets("\x00", 5, "0"), 1}, {gets("\xff", 6, of("f", 300)), 2}, {gets("ab", 9, "ab"), 4}, {del("ab", api.MaxSeq), 1}, {gets("ab", 8, "x"), 5},
	}
}

// keys are such as some has, and others beside them.
func keys() []string {
	return []string{"", "\x00", "\x00\x00", "a", "a\x00", "a\x00\x00", "aa", "ab", "ab\x00", "b", "b\x00", "c", "\x7f", "\xff", "\xff\x00", "\xff\xff", of("\xff", 200)}
}

func seqs() []uint64 {
	return []uint64{0, 1, 2, 3, 4, 5, 6, 7, 8, 9, 10, 11, api.MaxSeq - 1, api.MaxSeq, api.MaxSeq + 1, 1 << 63, math.MaxUint64}
}

func checkErr(t *testing.T, what string, got, want api.Errno) {
	t.Helper()
	if got != want {
		t.Errorf("%s: %d, want %d", what, got, want)
	}
}

func checkList(t *testing.T, what string, got, want []api.Version) {
	t.Helper()
	if !slices.Equal(got, want) {
		t.Errorf("%s: %v, want %v", what, got, want)
	}
}

func checkGet(t *testing.T, x *memtable.Table, key string, seq uint64, want api.Version, ok bool) {
	t.Helper()
	if v, k := x.Get(key, seq); v != want || k != ok {
		t.Errorf("Get(%q, %d): %v %t, want %v %t", key, seq, v, k, want, ok)
	}
}

// checkSeen asks for all that a table tells of its versions alone.
func checkSeen(t *testing.T, x *memtable.Table, m model) {
	t.Helper()
	for _, key := range keys() {
		checkList(t, "From("+key+")", slices.Collect(x.From(key)), m.from(key))
		for _, seq := range seqs() {
			want, ok := m.get(key, seq)
			checkGet(t, x, key, seq, want, ok)
		}
	}
	if x.Len() != len(m) || x.Bytes() != m.bytes() {
		t.Errorf("Len, Bytes: %d %d, want %d %d", x.Len(), x.Bytes(), len(m), m.bytes())
	}
}

// checkTowers asks for all that hangs on the towers.
func checkTowers(t *testing.T, x *memtable.Table, m model) {
	t.Helper()
	for level := -2; level <= api.MaxHeight+1; level++ {
		checkList(t, "Level", x.Level(level), m.level(level))
	}
	for _, key := range keys() {
		if got, want := x.Steps(key), m.steps(key); got != want {
			t.Errorf("Steps(%q): %d, want %d", key, got, want)
		}
	}
}

// P6.1
func TestLess(t *testing.T) {
	l := []api.Version{ // in order
		gets("", 5, ""), gets("", 0, ""), gets("\x00", 1, ""), gets("\x00\xff", 9, ""), gets("\x01", 9, ""), gets("A", 3, "x"), gets("a", math.MaxUint64, ""),
		gets("a", 1<<63, ""), gets("a", 1<<63-1, ""), del("a", 2), gets("a", 1, "x"), gets("a", 0, ""), gets("a\x00", 1, ""), gets("aa", 7, ""), gets("ab", 7, ""),
		gets("ab", 6, ""), gets("b", 9, "a"), del("b", 8), gets("b", 7, "z"), gets("\x7f", 1, ""), gets("\x80", 1, ""), gets("é", 1, ""), gets("\xff", 1, ""),
	}
	for i, a := range l {
		for k, b := range l {
			if got := memtable.Less(a, b); got != (i < k) {
				t.Errorf("Less(%q %d, %q %d): %t", a.Key, a.Seq, b.Key, b.Seq, got)
			}
		}
		for _, b := range []api.Version{gets(a.Key, a.Seq, "other"), gets(a.Key, a.Seq, ""), del(a.Key, a.Seq)} {
			if memtable.Less(a, b) || memtable.Less(b, a) {
				t.Errorf("Less of one place, %q %d: true", a.Key, a.Seq)
			}
		}
	}
}

// height is what Height is said to be, by how many lowest bits of a draw are 0.
func height(x uint64) int { return min(bits.TrailingZeros64(x)/2+1, 8) }

// P6.2
func TestHeight(t *testing.T) {
	for _, c := range []struct {
		seed, seq uint64
		want      int
	}{{0, 1, 1}, {0, 2, 2}} {
		if got := memtable.Height(c.seed, c.seq); got != c.want {
			t.Errorf("Height(%d, %d): %d, want %d", c.seed, c.seq, got, c.want)
		}
	}
	var seen [9]int
	for _, seed := range []uint64{0, 1, 1 << 63, math.MaxUint64} {
		for i := range uint64(20000) {
			for _, seq := range []uint64{i, api.MaxSeq - i, math.MaxUint64 - i} {
				want := height(codec.Mix(seed ^ codec.Mix(seq)))
				if got := memtable.Height(seed, seq); got != want {
					t.Errorf("Height(%d, %d): %d, want %d", seed, seq, got, want)
				}
				seen[want]++
			}
		}
	}
	for h := 1; h <= 8; h++ {
		if seen[h] == 0 {
			t.Errorf("no tower of the height %d was asked for", h)
		}
	}
}

// unmixed is the number of which Mix makes this one.
func unmixed(n uint64) uint64 {
	inverse := func(odd uint64) uint64 { // each step doubles the bits that are right
		x := odd
		for range 6 {
			x *= 2 - odd*x
		}
		return x
	}
	n ^= n>>31 ^ n>>62
	n *= inverse(0x94d049bb133111eb)
	n ^= n>>27 ^ n>>54
	n *= inverse(0xbf58476d1ce4e5b9)
	n ^= n>>30 ^ n>>60
	return n - 0x9e3779b97f4a7c15
}

// P6.2: the seed by which a draw is whatever is asked for, 0 and such as have their lowest bit at any place.
func TestHeightOfEveryDraw(t *testing.T) {
	for _, seq := range []uint64{0, 1, 77, api.MaxSeq, math.MaxUint64} {
		for bit := range 65 {
			for _, high := range []uint64{0, math.MaxUint64, 0xaaaaaaaaaaaaaaaa, 0x5555555555555555} {
				x := uint64(1)<<bit | high<<bit<<1 // bit 64 is none: x is 0
				seed := unmixed(x) ^ codec.Mix(seq)
				if got := memtable.Height(seed, seq); got != height(x) {
					t.Errorf("Height of the draw %x: %d, want %d", x, got, height(x))
				}
			}
		}
	}
}

// P6.3
func TestNew(t *testing.T) {
	x := memtable.New()
	if x == nil {
		t.Fatal("New: nil")
	}
	checkSeen(t, x, nil)
	checkTowers(t, x, nil)
}

// P6.3
func TestAdd(t *testing.T) {
	x, m := table(t)
	for _, y := range some() {
		checkErr(t, "Add", x.Add(y.v, y.height), m.add(y))
		checkSeen(t, x, m)
		checkTowers(t, x, m)
	}
}

// P6.3: what may just be, and what may just not.
func TestAddWhatMayBe(t *testing.T) {
	long := of("k", 96)
	for _, c := range []struct {
		v   api.Version
		err api.Errno
	}{
		{gets("", 1, "v"), api.ErrArg}, {del("", 1), api.ErrArg}, {gets("k", 1, "v"), api.OK}, {del("k", 1), api.OK},
		{gets(long, 1, "v"), api.OK}, {gets(long+"k", 1, "v"), api.ErrArg}, {del(long, 1), api.OK}, {del(long+"k", 1), api.ErrArg}, {gets(of("k", 1<<20), 1, ""), api.ErrArg},
		{gets("k", 0, "v"), api.ErrArg}, {gets("k", 1<<50-1, "v"), api.OK}, {gets("k", 1<<50, "v"), api.OK}, {gets("k", 1<<50+1, "v"), api.ErrArg}, {gets("k", math.MaxUint64, "v"), api.ErrArg},
		{del("k", 0), api.ErrArg}, {del("k", 1<<50), api.OK}, {del("k", 1<<50+1), api.ErrArg}, {del("k", 1<<63), api.ErrArg},
		{gets("k", 1, ""), api.OK}, {gets("k", 1, of("v", 16384)), api.OK}, {gets("k", 1, of("v", 16385)), api.ErrArg}, {gets("k", 1, of("v", 1<<20)), api.ErrArg},
		{api.Version{Key: "k", Seq: 1, Del: true, Value: "v"}, api.ErrArg}, {api.Version{Key: "k", Seq: 1, Del: true, Value: of("v", 16385)}, api.ErrArg}, {api.Version{}, api.ErrArg},
	} {
		x, m := table(t)
		checkErr(t, "Add", x.Add(c.v, 1), c.err)
		if c.err == api.OK {
			m = model{{c.v, 1}}
		}
		checkSeen(t, x, m)
		checkList(t, "From", slices.Collect(x.From("")), m.from(""))
	}
}

// P6.3
func TestAddHeights(t *testing.T) {
	for _, height := range []int{math.MinInt, math.MinInt32, -8, -1, 0, 9, 10, 64, 256 + 1, math.MaxInt32, math.MaxInt} {
		x, m := table(t, some()...)
		checkErr(t, "Add of no height", x.Add(gets("new", 1, "v"), height), api.ErrArg)
		checkErr(t, "Add of no height, of a place that is taken", x.Add(gets("b", 1, "v"), height), api.ErrArg)
		checkSeen(t, x, m)
		checkTowers(t, x, m)
	}
	for height := 1; height <= 8; height++ {
		x, m := table(t, tall{gets("k", 1, "v"), height})
		checkSeen(t, x, m)
		checkTowers(t, x, m)
	}
}

// P6.3: a place is taken whatever else the version says; one that may not be is refused ahead of that.
func TestAddOfOnePlace(t *testing.T) {
	x, m := table(t, some()...)
	for _, y := range some() {
		for height := 1; height <= 8; height++ {
			checkErr(t, "Add once more", x.Add(y.v, height), api.ErrThere)
			checkErr(t, "Add of another value", x.Add(gets(y.v.Key, y.v.Seq, "other"), height), api.ErrThere)
			checkErr(t, "Add of a Del", x.Add(del(y.v.Key, y.v.Seq), height), api.ErrThere)
		}
		checkErr(t, "Add of too much", x.Add(gets(y.v.Key, y.v.Seq, of("v", 16385)), 1), api.ErrArg)
	}
	checkSeen(t, x, m)
	checkTowers(t, x, m)
	checkErr(t, "Add of the key behind", x.Add(gets("b\x00", 1, "n"), 3), m.add(tall{gets("b\x00", 1, "n"), 3}))
	checkErr(t, "Add of the Seq between", x.Add(gets("b", 2, "n"), 3), m.add(tall{gets("b", 2, "n"), 3}))
	checkSeen(t, x, m)
	checkTowers(t, x, m)
}

// P6.4
func TestGet(t *testing.T) {
	x, _ := table(t, tall{gets("b", 4, "four"), 1}, tall{del("b", 6), 2}, tall{gets("b", 9, ""), 1}, tall{gets("c", 5, "c"), 3})
	for _, c := range []struct {
		key  string
		seq  uint64
		want api.Version
		ok   bool
	}{
		{"b", 0, api.Version{}, false}, {"b", 3, api.Version{}, false}, {"b", 4, gets("b", 4, "four"), true}, {"b", 5, gets("b", 4, "four"), true},
		{"b", 6, del("b", 6), true}, {"b", 8, del("b", 6), true}, {"b", 9, gets("b", 9, ""), true}, {"b", math.MaxUint64, gets("b", 9, ""), true},
		{"c", 4, api.Version{}, false}, {"c", 5, gets("c", 5, "c"), true}, {"a", 9, api.Version{}, false}, {"bb", 9, api.Version{}, false}, {"d", 9, api.Version{}, false},
		{"", 9, api.Version{}, false}, {of("b", 97), 9, api.Version{}, false}, {"b\x00", 9, api.Version{}, false},
	} {
		checkGet(t, x, c.key, c.seq, c.want, c.ok)
	}
}

// P6.5: it may be left early, and ranged over again.
func TestFromIsLeftAndRangedOverAgain(t *testing.T) {
	x, m := table(t, some()...)
	for _, key := range keys() {
		seq, want := x.From(key), m.from(key)
		for most := range len(want) + 1 {
			var got []api.Version
			for v := range seq {
				if len(got) == most {
					break
				}
				got = append(got, v)
			}
			checkList(t, "the beginning of From", got, want[:most])
			checkList(t, "From, ranged over again", slices.Collect(seq), want)
		}
		for range seq { // one within the other
			checkList(t, "From within itself", slices.Collect(seq), want)
		}
	}
}

// P6.5: the versions that are there when the range begins, not when From is called, nor what is added while it goes on.
func TestFromWhileVersionsAreAdded(t *testing.T) {
	x, m := table(t)
	seq := x.From("k")
	for _, y := range some() {
		x.Add(y.v, y.height)
		m.add(y)
	}
	checkList(t, "From, called ahead of the Adds", slices.Collect(seq), m.from("k"))

	all := x.From("")
	for round := range 3 {
		before, n := m.from(""), 0
		var got []api.Version
		for v := range all {
			got = append(got, v)
			for _, y := range []tall{
				{gets(v.Key, v.Seq%1000+1000*uint64(3*round+1), "new"), 1 + n%8}, {gets(v.Key, v.Seq%1000+1000*uint64(3*round+2), "newer"), 8},
				{gets(v.Key+"\x00", uint64(round+1), "behind"), 8 - n%8}, {gets("\xff\xff", uint64(100*round+n+1), "last"), 1}, {gets("\x00\x00", uint64(100*round+n+1), "first"), 2},
			} {
				checkErr(t, "Add in a range", x.Add(y.v, y.height), m.add(y))
			}
			n++
		}
		checkList(t, "From, while versions are added", got, before)
		checkList(t, "From behind it", slices.Collect(all), m.from(""))
	}
	checkSeen(t, x, m)
	checkTowers(t, x, m)
}

// P6.5: a range in which another one begins tells less than that.
func TestFromWithinAnOlderRange(t *testing.T) {
	x, m := table(t, tall{gets("a", 1, ""), 1}, tall{gets("c", 2, ""), 1}, tall{gets("e", 3, ""), 1})
	old := m.from("")
	var got []api.Version
	for v := range x.From("") {
		got = append(got, v)
		y := tall{gets(v.Key+"x", 4, ""), 2}
		checkErr(t, "Add", x.Add(y.v, y.height), m.add(y))
		checkList(t, "the younger range", slices.Collect(x.From("")), m.from(""))
	}
	checkList(t, "the older range", got, old)
}

// P6.6
func TestLenAndBytes(t *testing.T) {
	x, n, bytes := memtable.New(), 0, 0
	for _, v := range []api.Version{gets("a", 1, ""), del("a", 2), gets(of("k", 96), 3, of("v", 16384)), gets("bb", 4, "vvv"), del(of("k", 96), 5)} {
		checkErr(t, "Add", x.Add(v, 8), api.OK)
		checkErr(t, "Add once more", x.Add(v, 8), api.ErrThere)
		n, bytes = n+1, bytes+len(v.Key)+len(v.Value)+16
		if x.Len() != n || x.Bytes() != bytes {
			t.Errorf("Len, Bytes: %d %d, want %d %d", x.Len(), x.Bytes(), n, bytes)
		}
	}
}

// P6.6
func TestLevel(t *testing.T) {
	var l []tall
	for height := 1; height <= 8; height++ {
		l = append(l, tall{gets(string(rune('a'+height)), 1, "v"), height}, tall{gets("z", uint64(height), "v"), height})
	}
	x, m := table(t, l...)
	for level := range 8 {
		if got := len(x.Level(level)); got != 2*(8-level) {
			t.Errorf("Level(%d): %d versions, want %d", level, got, 2*(8-level))
		}
		checkList(t, "Level", x.Level(level), m.level(level))
	}
	for _, level := range []int{-1, -8, math.MinInt32, math.MinInt, 8, 9, 256, math.MaxInt32, math.MaxInt} {
		checkList(t, "Level of none", x.Level(level), nil)
	}
}

// P6.7
func TestSteps(t *testing.T) {
	low, _ := table(t, tall{gets("a", 1, ""), 1}, tall{gets("b", 3, ""), 1}, tall{gets("b", 2, ""), 1}, tall{gets("c", 4, ""), 1})
	high, _ := table(t, tall{gets("a", 1, ""), 8}, tall{gets("b", 3, ""), 8}, tall{gets("b", 2, ""), 8}, tall{gets("c", 4, ""), 8})
	mixed, _ := table(t, tall{gets("a", 1, ""), 1}, tall{gets("b", 3, ""), 1}, tall{gets("b", 2, ""), 5}, tall{gets("c", 4, ""), 1}, tall{gets("d", 4, ""), 3})
	for _, c := range []struct {
		key              string
		low, high, mixed int
	}{{"", 0, 0, 0}, {"a", 0, 0, 0}, {"a\x00", 1, 1, 1}, {"b", 1, 1, 1}, {"bb", 3, 3, 1}, {"c", 3, 3, 1}, {"cc", 4, 4, 2}, {"d", 4, 4, 2}, {"dd", 4, 4, 2}, {of("\xff", 200), 4, 4, 2}} {
		if a, b, d := low.Steps(c.key), high.Steps(c.key), mixed.Steps(c.key); a != c.low || b != c.high || d != c.mixed {
			t.Errorf("Steps(%q): %d %d %d, want %d %d %d", c.key, a, b, d, c.low, c.high, c.mixed)
		}
	}
}

// P6.3 to P6.7: any versions, added in any order.
func TestAnyTable(t *testing.T) {
	r := rand.New(rand.NewSource(6))
	all := keys()[1:16]
	for range 300 {
		x, m := table(t)
		for range r.Intn(60) {
			y := tall{gets(all[r.Intn(len(all))], seqs()[1+r.Intn(13)], of("v", r.Intn(20))), 1 + r.Intn(1+r.Intn(8))}
			if r.Intn(4) == 0 {
				y.v = del(y.v.Key, y.v.Seq)
			}
			checkErr(t, "Add", x.Add(y.v, y.height), m.add(y))
		}
		checkSeen(t, x, m)
		checkTowers(t, x, m)
		if !slices.IsSortedFunc(slices.Collect(x.From("")), order) {
			t.Errorf("From: not in order")
		}
	}
}

// P6.8: not the order in which they were added, nor the towers.
func TestOrderAndTowersAreNotSeen(t *testing.T) {
	versions := []api.Version{gets("a", 1, "x"), del("a", 2), gets("b", 1, ""), gets("ab", 3, "yy"), gets("a", 9, "z")}
	r := rand.New(rand.NewSource(8))
	var add func(l []api.Version, left []api.Version)
	add = func(l []api.Version, left []api.Version) {
		for i := range left {
			add(append(slices.Clone(l), left[i]), slices.Delete(slices.Clone(left), i, i+1))
		}
		if len(left) > 0 {
			return
		}
		for _, height := range []func() int{func() int { return 1 }, func() int { return 8 }, func() int { return 1 + r.Intn(8) }} {
			var towers []tall
			for _, v := range l {
				towers = append(towers, tall{v, height()})
			}
			x, m := table(t, towers...)
			checkSeen(t, x, m)
			checkTowers(t, x, m)
		}
	}
	add(nil, versions)
}

// P6.7: with Height's towers, a look in a table of many versions is short.
func TestStepsAreFew(t *testing.T) {
	const many = 20000
	x := memtable.New()
	name := func(i uint64) string { return codec.KeyInt(int64(i)) }
	for i := range uint64(many) {
		seq := i*7919%many + 1
		checkErr(t, "Add", x.Add(gets(name(seq), seq, "v"), memtable.Height(1, seq)), api.OK)
	}
	most := 0
	for i := range uint64(many) {
		most = max(most, x.Steps(name(i+1)))
		checkGet(t, x, name(i+1), i+1, gets(name(i+1), i+1, "v"), true)
	}
	if most == 0 || most > 100 {
		t.Errorf("Steps: up to %d", most)
	}
}

// R1: of no table all is nothing.
func TestNoTable(t *testing.T) {
	var x *memtable.Table
	checkErr(t, "Add", x.Add(gets("a", 1, "v"), 1), api.ErrArg)
	checkErr(t, "Add of none", x.Add(api.Version{}, 0), api.ErrArg)
	checkSeen(t, x, nil)
	checkTowers(t, x, nil)
}

// spoil writes into a text's own memory: whoever shares it sees that.
func spoil(s string) {
	b := unsafe.Slice(unsafe.StringData(s), len(s))
	for i := range b {
		b[i] = '!'
	}
}

// lent is a text in memory that may be spoiled.
func lent(s string) string {
	b := []byte(s)
	return unsafe.String(unsafe.SliceData(b), len(b))
}

// R3: what is handed in isn't kept, and what comes out is new memory.
func TestMemoryIsNotShared(t *testing.T) {
	x, m := table(t)
	for _, y := range some() {
		key, value := lent(y.v.Key), lent(y.v.Value)
		checkErr(t, "Add", x.Add(api.Version{Key: key, Seq: y.v.Seq, Del: y.v.Del, Value: value}, y.height), m.add(y))
		spoil(key)
		spoil(value)
	}
	checkSeen(t, x, m)
	key := lent("ab")
	seq := x.From(key)
	spoil(key)
	checkList(t, "From a key that is no more", slices.Collect(seq), m.from("ab"))
	for v := range x.From("") {
		spoil(v.Key)
		spoil(v.Value)
	}
	for level := range api.MaxHeight {
		l, other := x.Level(level), x.Level(level)
		for _, v := range l {
			spoil(v.Key)
			spoil(v.Value)
		}
		checkList(t, "a list beside one that is spoiled", other, m.level(level))
		clear(l[:cap(l)])
	}
	for _, y := range m {
		v, _ := x.Get(y.v.Key, y.v.Seq)
		spoil(v.Key)
		spoil(v.Value)
	}
	checkSeen(t, x, m)
	checkTowers(t, x, m)
}

// R4: tables know nothing of one another, and looks change nothing.
func TestTablesApart(t *testing.T) {
	x, m := table(t, some()...)
	y, n := table(t)
	for range 2 {
		checkSeen(t, x, m)
		checkTowers(t, x, m)
		checkSeen(t, y, n)
		checkTowers(t, y, n)
	}
	checkErr(t, "Add to the other one", y.Add(gets("b", 1, "own"), 4), n.add(tall{gets("b", 1, "own"), 4}))
	checkErr(t, "Add to the one", x.Add(gets("c", 1, "own"), 8), m.add(tall{gets("c", 1, "own"), 8}))
	checkSeen(t, x, m)
	checkTowers(t, x, m)
	checkSeen(t, y, n)
	checkTowers(t, y, n)
}
