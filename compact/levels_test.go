package compact_test

import (
	"math"
	"math/rand"
	"reflect"
	"slices"
	"strings"
	"testing"
	"unsafe"

	"tapestry/api"
	"tapestry/compact"
)

// of are so many bytes, all alike.
func of(c string, n int) string { return strings.Repeat(c, n) }

// config is a configuration that may be.
func config() api.StoreConfig {
	return api.StoreConfig{Mem: 64, Block: 64, Bits: 10, Table: 256, Files0: 2, Base: 300, Edits: 4, Seed: 1}
}

// with is that one, changed.
func with(change func(c *api.StoreConfig)) api.StoreConfig {
	c := config()
	change(&c)
	return c
}

// bounded: a number of a configuration, and its bounds.
type bounded struct {
	of          func(c *api.StoreConfig) *int
	least, most int
}

func bounds() []bounded {
	return []bounded{
		{func(c *api.StoreConfig) *int { return &c.Mem }, 64, 65536},
		{func(c *api.StoreConfig) *int { return &c.Block }, 64, 4096},
		{func(c *api.StoreConfig) *int { return &c.Bits }, 0, 20},
		{func(c *api.StoreConfig) *int { return &c.Table }, 256, 65536},
		{func(c *api.StoreConfig) *int { return &c.Files0 }, 1, 8},
		{func(c *api.StoreConfig) *int { return &c.Base }, 256, 1048576},
		{func(c *api.StoreConfig) *int { return &c.Edits }, 1, 1000},
	}
}

// refused are configurations that may not be, each by one number.
func refused() []api.StoreConfig {
	l := []api.StoreConfig{{}}
	for _, b := range bounds() {
		for _, n := range []int{math.MinInt, -1, b.least - 1, b.most + 1, b.least + 1<<32, math.MaxInt} {
			l = append(l, with(func(c *api.StoreConfig) { *b.of(c) = n }))
		}
	}
	return l
}

// taken are configurations that may just be.
func taken() []api.StoreConfig {
	least, most := config(), config()
	l := []api.StoreConfig{config(), with(func(c *api.StoreConfig) { c.Seed = 0 }), with(func(c *api.StoreConfig) { c.Seed = math.MaxUint64 })}
	for _, b := range bounds() {
		*b.of(&least), *b.of(&most) = b.least, b.most
		for _, n := range []int{b.least, b.most} {
			l = append(l, with(func(c *api.StoreConfig) { *b.of(c) = n }))
		}
	}
	return append(l, least, most)
}

// lies is a table whose keys lie from one to another one.
func lies(number uint64, size int, least, greatest string) api.Table {
	return api.Table{Number: number, Size: size, Count: 3, Least: least, Greatest: greatest}
}

// live are levels of tables.
func live(levels ...[]api.Table) api.Live {
	l := api.Live{Next: 100, Seq: 50, Log: 7}
	for level, list := range levels {
		for i := range list {
			list[i].Level = level
		}
		l.Tables[level] = list
	}
	return l
}

// numbers are those of tables, in their order.
func numbers(l []api.Table) []uint64 {
	var n []uint64
	for _, t := range l {
		n = append(n, t.Number)
	}
	return n
}

func checkScore(t *testing.T, what string, c api.StoreConfig, l api.Live, level, much, most int) {
	t.Helper()
	if x, y := compact.Score(c, l, level); x != much || y != most {
		t.Errorf("%s: Score of level %d: %d %d, want %d %d", what, level, x, y, much, most)
	}
}

// checkJob asks for a job of a level, of tables of these numbers.
func checkJob(t *testing.T, what string, c api.StoreConfig, l api.Live, after [api.Levels]string, level int, from, to []uint64, bottom bool) {
	t.Helper()
	j, ok := compact.Pick(c, l, after)
	if !ok || j.Level != level || !slices.Equal(numbers(j.From), from) || !slices.Equal(numbers(j.To), to) || j.Bottom != bottom {
		t.Errorf("%s: Pick: level %d, %v to %v, bottom %t, %t; want level %d, %v to %v, bottom %t", what, j.Level, numbers(j.From), numbers(j.To), j.Bottom, ok, level, from, to, bottom)
	}
	want := wanted(c, l, after)
	if !ok || want == nil || !sameJob(j, *want) {
		t.Errorf("%s: Pick: %v %t, want %v", what, j, ok, want)
	}
}

func checkNoJob(t *testing.T, what string, c api.StoreConfig, l api.Live) {
	t.Helper()
	if j, ok := compact.Pick(c, l, [api.Levels]string{}); ok || !reflect.DeepEqual(j, api.Job{}) {
		t.Errorf("%s: Pick: %v %t, want none", what, j, ok)
	}
}

func sameJob(a, b api.Job) bool {
	return a.Level == b.Level && slices.Equal(a.From, b.From) && slices.Equal(a.To, b.To) && a.Bottom == b.Bottom
}

// wanted is the job that Pick is said to tell, of a configuration that may be; nil: none.
func wanted(c api.StoreConfig, l api.Live, after [api.Levels]string) *api.Job {
	sizes := func(level int) int {
		n := 0
		for _, t := range l.Tables[level] {
			n += t.Size
		}
		return n
	}
	var j api.Job
	switch {
	case len(l.Tables[0]) > c.Files0-1:
		j.From = l.Tables[0]
	case sizes(1) > c.Base:
		j.Level = 1
	case sizes(2) > c.Base*4:
		j.Level = 2
	default:
		return nil
	}
	if j.Level > 0 {
		j.From = l.Tables[j.Level][:1]
		for i := len(l.Tables[j.Level]) - 1; i >= 0; i-- {
			if l.Tables[j.Level][i].Greatest > after[j.Level] {
				j.From = l.Tables[j.Level][i : i+1]
			}
		}
	}
	for _, t := range l.Tables[j.Level+1] {
		if overlap(t, extent(j.From)) {
			j.To = append(j.To, t)
		}
	}
	j.Bottom = true
	for level := j.Level + 2; level < 4; level++ {
		for _, t := range l.Tables[level] {
			j.Bottom = j.Bottom && !overlap(t, extent(slices.Concat(j.From, j.To)))
		}
	}
	return &j
}

// extent is a table from the least to the greatest key of others.
func extent(l []api.Table) api.Table {
	var least, greatest []string
	for _, t := range l {
		least, greatest = append(least, t.Least), append(greatest, t.Greatest)
	}
	return api.Table{Least: slices.Min(least), Greatest: slices.Max(greatest)}
}

// overlap is chapter 10's word.
func overlap(a, b api.Table) bool { return !(a.Greatest < b.Least) && !(b.Greatest < a.Least) }

// full is a Live of which each level has more than any configuration lets it have.
func full() api.Live {
	var levels [4][]api.Table
	for level := range levels {
		for i := range 9 {
			key := string(rune('a' + i))
			levels[level] = append(levels[level], lies(uint64(10*level+i+1), 1<<20, key, key+"z"))
		}
	}
	return live(levels[:]...)
}

// P11.1
func TestScore(t *testing.T) {
	l := live(
		[]api.Table{lies(1, 1000, "a", "z"), lies(2, 2000, "a", "z"), lies(3, 4000, "c", "d")},
		[]api.Table{lies(4, 100, "a", "b"), lies(5, 31, "c", "d")},
		[]api.Table{lies(6, 7, "a", "b"), lies(7, 1<<30, "c", "d"), lies(8, 1<<30, "e", "f")},
		[]api.Table{lies(9, 5000, "a", "b")},
	)
	checkScore(t, "tables", config(), l, 0, 3, 1)
	checkScore(t, "tables", config(), l, 1, 131, 300)
	checkScore(t, "tables", config(), l, 2, 7+1<<31, 1200)
	checkScore(t, "no tables", config(), api.Live{}, 0, 0, 1)
	checkScore(t, "no tables", config(), api.Live{}, 1, 0, 300)
	checkScore(t, "no tables", config(), api.Live{}, 2, 0, 1200)
	for _, c := range taken() {
		checkScore(t, "a configuration that may be", c, l, 0, 3, c.Files0-1)
		checkScore(t, "a configuration that may be", c, l, 1, 131, c.Base)
		checkScore(t, "a configuration that may be", c, l, 2, 7+1<<31, 4*c.Base)
	}
	checkScore(t, "Files0 1", with(func(c *api.StoreConfig) { c.Files0 = 1 }), l, 0, 3, 0)
	checkScore(t, "Files0 8", with(func(c *api.StoreConfig) { c.Files0 = 8 }), l, 0, 3, 7)
	checkScore(t, "Base 2^20", with(func(c *api.StoreConfig) { c.Base = 1 << 20 }), l, 2, 7+1<<31, 1<<22)
}

// P11.1: a table is in the level in whose list it stands, whatever it says of itself; its other numbers count for nothing.
func TestScoreGoesByLists(t *testing.T) {
	l := live(nil, []api.Table{lies(4, 100, "a", "b"), lies(4, 100, "a", "b")})
	l.Tables[1][0].Level, l.Tables[1][1].Level = 2, -7
	l.Tables[1][0].Count, l.Tables[1][0].Number = 1<<30, 1<<62
	checkScore(t, "other levels", config(), l, 1, 200, 300)
	checkScore(t, "other levels", config(), l, 2, 0, 1200)
}

// P11.1
func TestScoreOfNothing(t *testing.T) {
	for _, level := range []int{math.MinInt, -1 << 32, -2, -1, 3, 4, 5, 1 << 32, 1<<32 + 1, math.MaxInt} {
		checkScore(t, "no such level", config(), full(), level, 0, 0)
		checkScore(t, "no such level", config(), api.Live{}, level, 0, 0)
	}
	for _, c := range refused() {
		for level := -1; level < 5; level++ {
			checkScore(t, "a configuration that may not be", c, full(), level, 0, 0)
			checkScore(t, "a configuration that may not be", c, api.Live{}, level, 0, 0)
		}
	}
}

// P11.1, P11.2: a level is due when there is one more than there may be.
func TestDue(t *testing.T) {
	for _, files := range []int{1, 2, 3, 8} {
		c := with(func(c *api.StoreConfig) { c.Files0 = files })
		var list []api.Table
		for len(list) < files-1 {
			list = append(list, lies(uint64(len(list)+1), 1<<30, "a", "b"))
		}
		checkNoJob(t, "level 0", c, live(list))
		list = append(list, lies(9, 1, "c", "d"))
		checkJob(t, "level 0", c, live(list), [4]string{}, 0, numbers(list), nil, true)
	}
	for _, base := range []int{256, 300, 1 << 20} {
		c := with(func(c *api.StoreConfig) { c.Base = base })
		checkNoJob(t, "level 1", c, live(nil, []api.Table{lies(3, base, "a", "b")}))
		checkJob(t, "level 1", c, live(nil, []api.Table{lies(3, base+1, "a", "b")}), [4]string{}, 1, []uint64{3}, nil, true)
		checkNoJob(t, "level 1", c, live(nil, []api.Table{lies(3, base-1, "a", "b"), lies(4, 1, "c", "d")}))
		checkJob(t, "level 1", c, live(nil, []api.Table{lies(3, base, "a", "b"), lies(4, 1, "c", "d")}), [4]string{}, 1, []uint64{3}, nil, true)
		checkNoJob(t, "level 2", c, live(nil, nil, []api.Table{lies(3, 4*base, "a", "b")}))
		checkJob(t, "level 2", c, live(nil, nil, []api.Table{lies(3, 4*base+1, "a", "b")}), [4]string{}, 2, []uint64{3}, nil, true)
		checkNoJob(t, "level 3", c, live(nil, nil, nil, []api.Table{lies(3, 16*base+1, "a", "b"), lies(4, 1<<30, "c", "d")}))
	}
}

// P11.2
func TestPickOfWhatMayNotBe(t *testing.T) {
	checkNoJob(t, "no tables", config(), api.Live{})
	for _, c := range refused() {
		checkNoJob(t, "a configuration that may not be", c, full())
	}
	for _, c := range taken() {
		if _, ok := compact.Pick(c, full(), [4]string{}); !ok {
			t.Errorf("Pick with %v: no job", c)
		}
	}
}

// P11.2: the least level that is due, however much more another one has.
func TestPickLeastLevel(t *testing.T) {
	for due := range 8 {
		var levels [4][]api.Table
		least := -1
		for level := 2; level >= 0; level-- {
			levels[level] = []api.Table{lies(uint64(level+1), 1, "a", "b")}
			if due>>level&1 == 1 {
				levels[level] = append(levels[level], lies(uint64(level+11), 2000<<level, "c", "d"))
				least = level
			}
		}
		levels[3] = []api.Table{lies(9, 1<<30, "a", "b")}
		j, ok := compact.Pick(config(), live(levels[:]...), [4]string{})
		if ok != (least >= 0) || ok && j.Level != least {
			t.Errorf("Pick with the levels %03b due: level %d, %t", due, j.Level, ok)
		}
	}
}

// P11.2: of level 0 all go, in their order, whatever was taken last.
func TestPickOfLevel0(t *testing.T) {
	l := live(
		[]api.Table{lies(5, 1, "m", "p"), lies(2, 1, "a", "b"), lies(9, 1, "c", "z"), lies(7, 1, "c", "d")},
		[]api.Table{lies(3, 1, "0", "9"), lies(4, 1, "b", "c"), lies(6, 1, "d", "d"), lies(8, 1, "z", "zz"), lies(10, 1, "zzz", "zzzz")},
	)
	for _, after := range [][4]string{{}, {"c", "c", "c", "c"}, {"zzz", "zzz", "zzz", "zzz"}} {
		checkJob(t, "level 0", config(), l, after, 0, []uint64{5, 2, 9, 7}, []uint64{4, 6, 8}, true)
	}
}

// P11.2: of the others the first one that reaches beyond what was taken last, round and round.
func TestPickTakesTurns(t *testing.T) {
	for level := 1; level <= 2; level++ {
		var levels [4][]api.Table
		levels[level] = []api.Table{lies(3, 2000, "b", "c"), lies(4, 2000, "d", "f"), lies(5, 2000, "m", "m")}
		l := live(levels[:]...)
		for after, number := range map[string]uint64{
			"": 3, "a": 3, "b": 3, "bz": 3, "c": 4, "c\x00": 4, "d": 4, "e": 4, "ezzz": 4, "f": 5, "g": 5, "lz": 5, "m": 3, "m\x00": 3, "z": 3, "\xff\xff": 3, of("z", 5000): 3,
		} {
			var all [4]string
			all[level] = after
			checkJob(t, "after "+after, config(), l, all, level, []uint64{number}, nil, true)
			for other := range all { // what was taken of other levels doesn't matter
				if other != level {
					all[other] = "e"
				}
			}
			checkJob(t, "after "+after+" and others", config(), l, all, level, []uint64{number}, nil, true)
		}
	}
}

// P11.2: To are those in which a key may lie of all that lies between the ends of From.
func TestPickTo(t *testing.T) {
	next := []api.Table{lies(20, 1, "a", "c"), lies(21, 1, "d", "d"), lies(22, 1, "f", "h"), lies(23, 1, "k", "m"), lies(24, 1, "p", "r")}
	for _, c := range []struct {
		least, greatest string
		to              []uint64
	}{
		{"a", "a", []uint64{20}}, {"c", "c", []uint64{20}}, {"c\x00", "cz", nil}, {"c", "d", []uint64{20, 21}}, {"c\x00", "d", []uint64{21}}, {"d", "e", []uint64{21}}, {"d\x00", "e\xff", nil},
		{"e", "f", []uint64{22}}, {"h", "k", []uint64{22, 23}}, {"h\x00", "j", nil}, {"g", "g", []uint64{22}}, {"a", "z", []uint64{20, 21, 22, 23, 24}}, {"0", "9", nil}, {"0", "a", []uint64{20}},
		{"r", "z", []uint64{24}}, {"r\x00", "z", nil}, {"A", "Z", nil}, {"\xff", "\xff", nil}, {"l", "q", []uint64{23, 24}},
	} {
		from := lies(9, 5000, c.least, c.greatest)
		what := "from " + c.least + " to " + c.greatest
		checkJob(t, what, config(), live([]api.Table{from, from}, slices.Clone(next)), [4]string{}, 0, []uint64{9, 9}, c.to, true)
		checkJob(t, what, config(), live(nil, []api.Table{from}, slices.Clone(next)), [4]string{}, 1, []uint64{9}, c.to, true)
		checkJob(t, what, config(), live(nil, nil, []api.Table{from}, slices.Clone(next)), [4]string{}, 2, []uint64{9}, c.to, true)
		// The other tables of the level don't count.
		checkJob(t, what, config(), live(nil, []api.Table{from, lies(10, 1, "~", "~")}, append(slices.Clone(next), lies(25, 1, "~", "~"))), [4]string{}, 1, []uint64{9}, c.to, true)
	}
	// What lies between two tables of level 0 counts, though neither has it; their order doesn't matter.
	checkJob(t, "between", config(), live([]api.Table{lies(2, 1, "q", "q"), lies(1, 1, "d", "d")}, slices.Clone(next)), [4]string{}, 0, []uint64{2, 1}, []uint64{21, 22, 23, 24}, true)
}

// P11.2: Bottom is so, if no deeper level has anything between the ends of From and To together.
func TestPickBottom(t *testing.T) {
	from := []api.Table{lies(1, 5000, "f", "h"), lies(2, 5000, "j", "k")}
	to := []api.Table{lies(3, 1, "d", "f"), lies(4, 1, "k", "m"), lies(5, 1, "x", "z")}
	for _, c := range []struct {
		least, greatest string
		bottom          bool
	}{
		{"a", "c", true}, {"a", "d", false}, {"cz", "cz", true}, {"d", "d", false}, {"e", "e", false}, {"g", "g", false}, {"i", "i", false}, {"l", "l", false}, {"m", "m", false},
		{"m\x00", "n", true}, {"m", "zz", false}, {"n", "w", true}, {"y", "y", true}, {"a", "z", false}, {"", "", true}, {"\xff", "\xff", true},
	} {
		deep := []api.Table{lies(8, 1, c.least, c.greatest)}
		what := "a deeper table from " + c.least + " to " + c.greatest
		checkJob(t, what, config(), live(slices.Clone(from), slices.Clone(to), deep), [4]string{}, 0, []uint64{1, 2}, []uint64{3, 4}, c.bottom)
		checkJob(t, what, config(), live(slices.Clone(from), slices.Clone(to), nil, deep), [4]string{}, 0, []uint64{1, 2}, []uint64{3, 4}, c.bottom)
		checkJob(t, what, config(), live(nil, []api.Table{lies(1, 5000, "f", "k")}, slices.Clone(to), deep), [4]string{}, 1, []uint64{1}, []uint64{3, 4}, c.bottom)
		// Behind some that have nothing there, too.
		checkJob(t, what, config(), live(slices.Clone(from), slices.Clone(to), []api.Table{lies(9, 1, "0", "1")}, append([]api.Table{lies(10, 1, "2", "3")}, deep...)), [4]string{}, 0, []uint64{1, 2}, []uint64{3, 4}, c.bottom)
	}
	deep := []api.Table{lies(8, 1, "e", "e")}
	checkJob(t, "what To has alone", config(), live(slices.Clone(from), nil, deep), [4]string{}, 0, []uint64{1, 2}, nil, true)
	// There is nothing below level 3; what is in the level, in the next one and above is not deeper.
	checkJob(t, "into level 3", config(), live(nil, []api.Table{lies(9, 1, "a", "z")}, slices.Clone(from), append([]api.Table{lies(8, 1, "a", "g")}, to[1:]...)), [4]string{}, 2, []uint64{1}, []uint64{8}, true)
	checkJob(t, "above", config(), live([]api.Table{lies(9, 1, "a", "z")}, []api.Table{lies(6, 5000, "f", "k"), lies(7, 1, "l", "l")}, slices.Clone(to)), [4]string{}, 1, []uint64{6}, []uint64{3, 4}, true)
}

// anyLive are tables of few keys, in order or not, their keys the right way round or not.
func anyLive(r *rand.Rand) api.Live {
	keys := []string{"", "a", "a\x00", "b", "c", "d", "dd", "e", "\xff"}
	var levels [4][]api.Table
	for level := range levels {
		for range r.Intn(6) {
			i, j := r.Intn(len(keys)), r.Intn(len(keys))
			if r.Intn(4) > 0 {
				i, j = min(i, j), max(i, j)
			}
			if r.Intn(2) == 0 {
				j = i
			}
			levels[level] = append(levels[level], lies(r.Uint64(), r.Intn(200<<(2*max(0, level-1))), keys[i], keys[j]))
		}
	}
	return live(levels[:]...)
}

// P11.1, P11.2: of any Live that is handed in.
func TestPickAnyLives(t *testing.T) {
	r := rand.New(rand.NewSource(11))
	seen := map[[3]int]int{}
	for range 40000 {
		c := with(func(c *api.StoreConfig) { c.Files0, c.Base = 1+r.Intn(8), 256+r.Intn(200) })
		l := anyLive(r)
		var after [4]string
		for level := range after {
			after[level] = []string{"", "a", "b", "c", "d", "dc", "dd", "\xff"}[r.Intn(8)]
		}
		j, ok := compact.Pick(c, l, after)
		want := wanted(c, l, after)
		if ok != (want != nil) || ok && !sameJob(j, *want) || !ok && !reflect.DeepEqual(j, api.Job{}) {
			t.Fatalf("Pick of %v after %q: %v %t, want %v", l, after, j, ok, want)
		}
		if ok {
			bottom := 0
			if j.Bottom {
				bottom = 1
			}
			seen[[3]int{j.Level, min(len(j.To), 3), bottom}]++
		}
	}
	for level := range 3 {
		for to := range 4 {
			for bottom := range 2 {
				if n := seen[[3]int{level, to, bottom}]; n < 20 && (level < 2 || bottom == 1) {
					t.Errorf("level %d, %d tables of the next one, bottom %d: tried %d times", level, to, bottom, n)
				}
			}
		}
	}
}

// spoil writes into a text's own memory: whoever shares it sees that.
func spoil(s string) {
	b := unsafe.Slice(unsafe.StringData(s), len(s))
	for i := range b {
		b[i] = '!'
	}
}

// lent is a text in memory that may be spoiled.
func lent(s string) string {
	b := []byte(s)
	return unsafe.String(unsafe.SliceData(b), len(b))
}

// lentLive is a Live in memory that may be spoiled, with spare room.
func lentLive(l api.Live) api.Live {
	for level, list := range l.Tables {
		list = slices.Grow(slices.Clone(list), 3)
		for i := range list {
			list[i].Least, list[i].Greatest = lent(list[i].Least), lent(list[i].Greatest)
		}
		l.Tables[level] = list
	}
	return l
}

// spoilTables writes into the tables, their texts and their spare room.
func spoilTables(l []api.Table) {
	for _, t := range l {
		spoil(t.Least)
		spoil(t.Greatest)
	}
	l = l[:cap(l)]
	for i := range l {
		l[i] = api.Table{Number: 666, Least: "!", Greatest: "!"}
	}
}

// R3: a job shares no memory with what it was made of, and none of its lists does with the other one.
func TestPickIsNewMemory(t *testing.T) {
	same := func() api.Live {
		return live([]api.Table{lies(1, 9, "a", "m"), lies(2, 9, "b", "d")}, []api.Table{lies(3, 2000, "b", "c"), lies(4, 9, "d", "n")}, []api.Table{lies(5, 9, "a", "z")})
	}
	for _, files := range []int{2, 8} { // of level 0, of level 1
		c := with(func(c *api.StoreConfig) { c.Files0 = files })
		want, _ := compact.Pick(c, same(), [4]string{})
		l := lentLive(same())
		j, ok := compact.Pick(c, l, [4]string{})
		if !ok || !sameJob(j, want) || !reflect.DeepEqual(l, lentLive(same())) {
			t.Fatalf("Pick: %v, %v left", j, l)
		}
		for _, list := range l.Tables {
			spoilTables(list)
		}
		if !sameJob(j, want) {
			t.Errorf("behind a change of what was handed in: %v, want %v", j, want)
		}
		l = same()
		j, _ = compact.Pick(c, l, [4]string{})
		clear(j.From[:cap(j.From)])
		if !slices.Equal(j.To, want.To) || !reflect.DeepEqual(l, same()) {
			t.Errorf("behind a change of From: %v, %v", j.To, l)
		}
		j, _ = compact.Pick(c, l, [4]string{})
		clear(j.To[:cap(j.To)])
		if !slices.Equal(j.From, want.From) || !reflect.DeepEqual(l, same()) {
			t.Errorf("behind a change of To: %v, %v", j.From, l)
		}
	}
}

// R4: one call tells the next one nothing.
func TestPickRemembersNothing(t *testing.T) {
	l := full()
	first, _ := compact.Pick(config(), l, [4]string{})
	compact.Pick(with(func(c *api.StoreConfig) { c.Files0 = 8 }), live(nil, l.Tables[1]), [4]string{1: "c"})
	if again, ok := compact.Pick(config(), l, [4]string{}); !ok || !sameJob(again, first) {
		t.Errorf("Pick once more: %v, want %v", again, first)
	}
}
