package manifest_test

import (
	"bytes"
	"cmp"
	"math"
	"math/rand"
	"reflect"
	"slices"
	"strings"
	"testing"
	"unsafe"

	"tapestry/api"
	"tapestry/codec"
	"tapestry/frame"
	"tapestry/manifest"
	"tapestry/wal"
)

const (
	top  = 1 << 62 // the greatest number
	size = 1 << 30 // the most bytes of a table, and the most versions
)

// of are so many bytes, all alike.
func of(c string, n int) string { return strings.Repeat(c, n) }

// lies is a table of a level, whose keys lie from one to another one.
func lies(number uint64, level int, least, greatest string) api.Table {
	return api.Table{Number: number, Level: level, Size: 100 + int(number%7), Count: 1 + int(number%5), Least: least, Greatest: greatest}
}

// adds is an edit of Next 100 that adds tables.
func adds(l ...api.Table) api.Edit { return api.Edit{Next: 100, Add: l} }

// with is an edit with other numbers to drop.
func with(e api.Edit, drops ...uint64) api.Edit {
	e.Drop = drops
	return e
}

// live are tables that are live, each in its level, in the order in which they are given.
func live(l ...api.Table) api.Live {
	v := api.Live{Next: 100}
	for _, t := range l {
		v.Tables[t.Level] = append(v.Tables[t.Level], t)
	}
	return v
}

// load is what an edit's frame bears, put together as the chapter says it, whether the edit may be or not.
func load(e api.Edit) string {
	var b bytes.Buffer
	for _, n := range []uint64{e.Next, e.Seq, e.Log, uint64(len(e.Add))} {
		b.WriteString(codec.PutUint(n))
	}
	for _, t := range e.Add {
		for _, n := range []uint64{t.Number, uint64(t.Level), uint64(t.Size), uint64(t.Count)} {
			b.WriteString(codec.PutUint(n))
		}
		b.WriteString(codec.PutText(t.Least))
		b.WriteString(codec.PutText(t.Greatest))
	}
	b.WriteString(codec.PutUint(uint64(len(e.Drop))))
	for _, n := range e.Drop {
		b.WriteString(codec.PutUint(n))
	}
	return b.String()
}

// framed is a frame's bytes.
func framed(t *testing.T, kind uint8, load string) string {
	t.Helper()
	s, err := frame.Put(api.Frame{Kind: kind, Load: load})
	if err != api.OK {
		t.Fatalf("frame.Put(%d, %d bytes): %d", kind, len(load), err)
	}
	return s
}

// written are the bytes of edits, one behind the other, and where each one ends.
func written(t *testing.T, l ...api.Edit) (string, []int) {
	t.Helper()
	s, ends := "", []int(nil)
	for _, e := range l {
		s += framed(t, api.FrameEdit, load(e))
		ends = append(ends, len(s))
	}
	return s, ends
}

// mayBe tells whether an edit may be, as the chapter says it.
func mayBe(e api.Edit) bool {
	ok := e.Next <= top && e.Seq <= top && e.Log <= top && len(e.Add) <= 1000 && len(e.Drop) <= 1000
	for _, t := range e.Add {
		ok = ok && t.Number >= 1 && t.Number <= top && t.Level >= 0 && t.Level <= 3
		ok = ok && t.Size >= 1 && t.Size <= size && t.Count >= 1 && t.Count <= size
		ok = ok && len(t.Least) >= 1 && len(t.Least) <= 96 && len(t.Greatest) >= 1 && len(t.Greatest) <= 96 && t.Least <= t.Greatest
	}
	for _, n := range e.Drop {
		ok = ok && n >= 1 && n <= top
	}
	return ok
}

// numbers are those of tables.
func numbers(l []api.Table) []uint64 {
	var n []uint64
	for _, t := range l {
		n = append(n, t.Number)
	}
	return n
}

// overlap tells whether a key may lie in both.
func overlap(a, b api.Table) bool { return !(a.Greatest < b.Least) && !(b.Greatest < a.Least) }

// applied is what an edit does, as the chapter says it.
func applied(l api.Live, e api.Edit) (api.Live, api.Errno) {
	if !mayBe(e) {
		return api.Live{}, api.ErrArg
	}
	bad := e.Next < l.Next || e.Seq < l.Seq || e.Log < l.Log
	all := numbers(slices.Concat(l.Tables[:]...))
	for i, n := range e.Drop {
		bad = bad || !slices.Contains(all, n) || slices.Contains(e.Drop[:i], n)
	}
	next := api.Live{Next: e.Next, Seq: e.Seq, Log: e.Log}
	for level, list := range l.Tables {
		for _, t := range list {
			if !slices.Contains(e.Drop, t.Number) {
				next.Tables[level] = append(next.Tables[level], t)
			}
		}
	}
	rest := numbers(slices.Concat(next.Tables[:]...))
	for i, t := range e.Add {
		bad = bad || t.Number >= e.Next || slices.Contains(numbers(e.Add[:i]), t.Number) || slices.Contains(rest, t.Number)
		next.Tables[t.Level] = append(next.Tables[t.Level], t)
	}
	for level, list := range next.Tables {
		for i, t := range list {
			for _, u := range list[:i] {
				bad = bad || level > 0 && overlap(t, u)
			}
		}
		slices.SortStableFunc(list, func(a, b api.Table) int {
			if level == 0 {
				return cmp.Compare(a.Number, b.Number)
			}
			return strings.Compare(a.Least, b.Least)
		})
	}
	if bad {
		return api.Live{}, api.ErrForm
	}
	return next, api.OK
}

// same tells whether both are the same, lists without elements alike.
func same(a, b api.Live) bool {
	for level := range a.Tables {
		if !slices.Equal(a.Tables[level], b.Tables[level]) {
			return false
		}
	}
	return a.Next == b.Next && a.Seq == b.Seq && a.Log == b.Log
}

// sameEdit does so of edits.
func sameEdit(a, b api.Edit) bool {
	return a.Next == b.Next && a.Seq == b.Seq && a.Log == b.Log && slices.Equal(a.Add, b.Add) && slices.Equal(a.Drop, b.Drop)
}

// short is a text's beginning, as much as a failed test may tell.
func short(s string) string { return s[:min(len(s), 24)] }

func checkErr(t *testing.T, what string, got, want api.Errno) {
	t.Helper()
	if got != want {
		t.Errorf("%s: %d, want %d", what, got, want)
	}
}

func checkLive(t *testing.T, what string, got, want api.Live) {
	t.Helper()
	if !same(got, want) {
		t.Errorf("%s: %d %d %d, tables %v, want %d %d %d, tables %v", what, got.Next, got.Seq, got.Log, brief(got), want.Next, want.Seq, want.Log, brief(want))
	}
}

// brief are a few of the tables' numbers, level by level.
func brief(l api.Live) [api.Levels][]uint64 {
	var n [api.Levels][]uint64
	for level, list := range l.Tables {
		n[level] = numbers(list[:min(len(list), 12)])
	}
	return n
}

// checkTaken asks Encode and Decode for an edit that may be.
func checkTaken(t *testing.T, e api.Edit) {
	t.Helper()
	s, err := manifest.Encode(e)
	if want := framed(t, api.FrameEdit, load(e)); s != want || err != api.OK {
		t.Errorf("Encode(%d, %d tables): % x.. %d, want % x..", e.Next, len(e.Add), short(s), err, short(want))
	}
	if got, err := manifest.Decode(load(e)); !sameEdit(got, e) || err != api.OK {
		t.Errorf("Decode(% x..): %d, %d tables, %d, want %d, %d", short(load(e)), got.Next, len(got.Add), err, e.Next, len(e.Add))
	}
}

// checkRefused asks Encode and Apply for an error, and Decode, by bytes that say the edit all the same, for one, too.
func checkRefused(t *testing.T, e api.Edit) {
	t.Helper()
	if s, err := manifest.Encode(e); s != "" || err != api.ErrArg {
		t.Errorf("Encode(%d, %d tables): % x.. %d, want nothing, 1", e.Next, len(e.Add), short(s), err)
	}
	checkNoLoad(t, load(e))
	for _, l := range []api.Live{{}, {Next: math.MaxUint64, Seq: math.MaxUint64, Log: math.MaxUint64}, live(lies(1, 1, "a", "z"))} {
		got, err := manifest.Apply(l, e)
		checkErr(t, "Apply of an edit that may not be", err, api.ErrArg)
		checkLive(t, "Apply of an edit that may not be", got, api.Live{})
	}
}

func checkNoLoad(t *testing.T, s string) {
	t.Helper()
	if e, err := manifest.Decode(s); err != api.ErrForm || !reflect.DeepEqual(e, api.Edit{}) {
		t.Errorf("Decode(% x.., %d bytes): %d, %d tables, %d, want nothing, 3", short(s), len(s), e.Next, len(e.Add), err)
	}
}

// checkApply asks for what the chapter says.
func checkApply(t *testing.T, what string, l api.Live, e api.Edit) (api.Live, api.Errno) {
	t.Helper()
	want, no := applied(l, e)
	got, err := manifest.Apply(l, e)
	checkErr(t, what, err, no)
	checkLive(t, what, got, want)
	return got, err
}

// checkApplied asks for an error, or for the numbers of a level's tables.
func checkApplied(t *testing.T, what string, l api.Live, e api.Edit, no api.Errno, level int, want ...uint64) {
	t.Helper()
	got, err := checkApply(t, what, l, e)
	checkErr(t, what, err, no)
	if n := numbers(got.Tables[level]); !slices.Equal(n, want) {
		t.Errorf("%s: level %d: %v, want %v", what, level, n, want)
	}
}

func checkReplay(t *testing.T, what, s string, want api.Live, many, end int, no api.Errno) {
	t.Helper()
	l, n, at, err := manifest.Replay(s)
	checkErr(t, what, err, no)
	checkLive(t, what, l, want)
	if n != many || at != end {
		t.Errorf("%s: %d edits up to %d, want %d up to %d", what, n, at, many, end)
	}
}

// checkNames asks both kinds of names for the number of one of them.
func checkNames(t *testing.T, name string, manifests, tables bool, number uint64) {
	t.Helper()
	for _, c := range []struct {
		what string
		f    func(string) (uint64, bool)
		ok   bool
	}{{"Number", manifest.Number, manifests}, {"TableNumber", manifest.TableNumber, tables}} {
		want := number
		if !c.ok {
			want = 0
		}
		if n, ok := c.f(name); n != want || ok != c.ok {
			t.Errorf("%s(%q): %d %t, want %d %t", c.what, short(name), n, ok, want, c.ok)
		}
	}
}

// P10.1
func TestNames(t *testing.T) {
	for _, c := range []struct {
		n uint64
		s string
	}{
		{0, "0000000000000000"}, {1, "0000000000000001"}, {9, "0000000000000009"}, {10, "000000000000000a"}, {15, "000000000000000f"}, {16, "0000000000000010"},
		{255, "00000000000000ff"}, {0x0123456789abcdef, "0123456789abcdef"}, {0xfedcba9876543210, "fedcba9876543210"},
		{1 << 62, "4000000000000000"}, {1 << 63, "8000000000000000"}, {math.MaxUint64, "ffffffffffffffff"},
	} {
		if got, want := manifest.Name(c.n), "manifest-"+c.s; got != want {
			t.Errorf("Name(%d): %q, want %q", c.n, got, want)
		}
		if got, want := manifest.Table(c.n), "table-"+c.s; got != want {
			t.Errorf("Table(%d): %q, want %q", c.n, got, want)
		}
		checkNames(t, "manifest-"+c.s, true, false, c.n)
		checkNames(t, "table-"+c.s, false, true, c.n)
		checkNames(t, "log-"+c.s, false, false, 0)
		checkNames(t, c.s, false, false, 0)
	}
}

// P10.1: of any number, and names rise as numbers do.
func TestNumbersReadNames(t *testing.T) {
	r := rand.New(rand.NewSource(1))
	for range 2000 {
		a, b := r.Uint64()>>r.Intn(64), r.Uint64()>>r.Intn(64)
		checkNames(t, manifest.Name(a), true, false, a)
		checkNames(t, manifest.Table(a), false, true, a)
		if (a < b) != (manifest.Name(a) < manifest.Name(b)) || (a < b) != (manifest.Table(a) < manifest.Table(b)) {
			t.Errorf("the names of %d and %d don't rise as they do", a, b)
		}
	}
}

// P10.1
func TestNumbersRefuse(t *testing.T) {
	for _, p := range []string{"manifest", "table"} {
		for _, name := range []string{
			"", p, p + "-", p + "-0", p + "-ff", p + "-000000000000000", p + "-00000000000000000", p + "-00000000000000001",
			p + "-ffffffffffffffff0", p + "-10000000000000000", p + "-00000000000000FF", p + "-ABCDEFABCDEFABCD", p + "-000000000000000g",
			strings.ToUpper(p) + "-0000000000000001", p + "_0000000000000001", p + "0000000000000001", p + "-" + p + "-0000000000000001", p + "-log-0000000000000001",
			p + "--000000000000001", p + "-+000000000000001", p + "- 000000000000001", p + "-0x00000000000001", p + "-0_00000000000001", p + "-log-000000000001",
			p + "-000000000000000\x00", p + "-0000000000000001\x00", p + "-0000000000000001 ", " " + p + "-0000000000000001", p + "-0000000000000001.new", "s" + p + "-0000000000000001",
			"log-0000000000000001", "current", "current.new", p[1:] + "-0000000000000001", p + "-00000000000000\u0663", p + "-" + of("0", 1000), p + "-" + of("f", 1000),
		} {
			checkNames(t, name, false, false, 0)
		}
	}
}

// P10.1: every byte at every place of a name.
func TestNumbersOfEveryByte(t *testing.T) {
	for _, name := range []string{manifest.Name(0xdead00beef), manifest.Table(0xdead00beef)} {
		isTable := strings.HasPrefix(name, "table")
		for i := range len(name) {
			for c := range 256 {
				other := name[:i] + string([]byte{byte(c)}) + name[i+1:]
				digit := strings.IndexByte("0123456789abcdef", byte(c))
				number := uint64(0xdead00beef)
				if i >= len(name)-16 && digit >= 0 {
					place := 4 * (len(name) - 1 - i)
					number = number&^(15<<place) | uint64(digit)<<place
				} else if other != name {
					checkNames(t, other, false, false, 0)
					continue
				}
				checkNames(t, other, !isTable, isTable, number)
			}
			checkNames(t, name[:i], false, false, 0)
			checkNames(t, name[:i]+name[i+1:], false, false, 0)
			checkNames(t, name[:i]+"0"+name[i:], false, false, 0)
		}
	}
}

// orphans are the names that no live thing has, as the chapter says it.
func orphans(l api.Live, current string, names []string) []string {
	var list []string
	for _, name := range names {
		ok := name != current && name != "current"
		for _, n := range numbers(slices.Concat(l.Tables[:]...)) {
			ok = ok && name != manifest.Table(n)
		}
		if n, is := wal.Number(name); is && n >= l.Log {
			ok = false
		}
		if ok && !slices.Contains(list, name) {
			list = append(list, name)
		}
	}
	slices.Sort(list)
	return list
}

func checkOrphans(t *testing.T, l api.Live, current string, names []string, want ...string) {
	t.Helper()
	if got := manifest.Orphans(l, current, names); !slices.Equal(got, want) {
		t.Errorf("Orphans(%v, %q, %q): %q, want %q", brief(l), current, names, got, want)
	}
	if got := orphans(l, current, names); !slices.Equal(got, want) {
		t.Errorf("the test's own orphans(%v, %q, %q): %q, want %q", brief(l), current, names, got, want)
	}
}

// P10.6
func TestOrphans(t *testing.T) {
	l := live(lies(4, 0, "a", "b"), lies(5, 1, "a", "b"), lies(255, 2, "a", "b"), lies(7, 3, "a", "b"))
	l.Log = 16
	table, man, log := manifest.Table, manifest.Name, wal.Name
	checkOrphans(t, l, man(1), nil)
	checkOrphans(t, l, man(1), []string{"current", man(1), table(4), table(5), table(255), table(7), log(16), log(17), log(math.MaxUint64)})
	checkOrphans(t, l, man(1), []string{table(6), table(3), table(0), table(math.MaxUint64)}, table(0), table(3), table(6), table(math.MaxUint64))
	checkOrphans(t, l, man(1), []string{log(15), log(0), log(1)}, log(0), log(1), log(15))
	checkOrphans(t, l, man(1), []string{man(0), man(2), man(4), man(16)}, man(0), man(2), man(4), man(16))
	// A manifest, or a log, has no table's number, and the other way round.
	checkOrphans(t, l, man(1), []string{man(5), log(5), table(16), table(1)}, log(5), man(5), table(1), table(16))
	// What has no number at all.
	checkOrphans(t, l, man(1), []string{"x", "current.new", "", "Current", "current ", "log-10", "log-00000000000000FF", "table-4", "table-00000000000000FF", "table-04", "log-"},
		"", "Current", "current ", "current.new", "log-", "log-00000000000000FF", "log-10", "table-00000000000000FF", "table-04", "table-4", "x")
	// Rising, each once.
	checkOrphans(t, l, "x", []string{"z", "b", "a", "b", "x", "a", "z", "z", "x", "ab", "\xff", ""}, "", "a", "ab", "b", "z", "\xff")
	checkOrphans(t, l, "", []string{"", "current", man(1), ""}, man(1))
	checkOrphans(t, l, table(9), []string{table(9), table(8)}, table(8))
	checkOrphans(t, l, "current", []string{"current", "b", "b"}, "b")
	// The current one is a name like others: one that is live stays so.
	checkOrphans(t, l, "", []string{log(15), log(16), table(4), table(9)}, log(15), table(9))
}

// P10.6: of a Live of noughts all logs are live, and no table is; of any Live that is handed in, it goes by what that says.
func TestOrphansOfOddLives(t *testing.T) {
	names := []string{manifest.Table(0), manifest.Table(1), manifest.Table(math.MaxUint64), wal.Name(0), wal.Name(math.MaxUint64), wal.Name(1 << 63)}
	checkOrphans(t, api.Live{}, "", names, manifest.Table(0), manifest.Table(1), manifest.Table(math.MaxUint64))
	odd := api.Live{Log: math.MaxUint64}
	odd.Tables[3] = []api.Table{{}, {Number: math.MaxUint64}, {Number: math.MaxUint64}}
	checkOrphans(t, odd, "", names, wal.Name(0), wal.Name(1<<63), manifest.Table(1))
	odd.Log = math.MaxUint64 - 1
	checkOrphans(t, odd, "", append(names, wal.Name(odd.Log), wal.Name(odd.Log-1)), wal.Name(0), wal.Name(1<<63), wal.Name(odd.Log-1), manifest.Table(1))
}

// P10.6: of any names.
func TestOrphansOfAnyNames(t *testing.T) {
	r := rand.New(rand.NewSource(2))
	for range 3000 {
		var l api.Live
		l.Log = uint64(r.Intn(8))
		for range r.Intn(6) {
			l.Tables[r.Intn(4)] = append(l.Tables[r.Intn(4)], api.Table{Number: uint64(r.Intn(8))})
		}
		var names []string
		for range r.Intn(12) {
			n := uint64(r.Intn(8))
			names = append(names, []string{wal.Name(n), manifest.Table(n), manifest.Name(n), "current", "x"}[r.Intn(5)])
		}
		current := manifest.Name(uint64(r.Intn(8)))
		checkOrphans(t, l, current, names, orphans(l, current, names)...)
	}
}

// spoil writes into a text's own memory: whoever shares it sees that.
func spoil(s string) {
	b := unsafe.Slice(unsafe.StringData(s), len(s))
	for i := range b {
		b[i] = '!'
	}
}

// lent is a text in memory that may be spoiled.
func lent(s string) string {
	b := []byte(s)
	return unsafe.String(unsafe.SliceData(b), len(b))
}

// lentTables are tables in memory that may be spoiled.
func lentTables(l []api.Table) []api.Table {
	l = slices.Clone(l)
	for i := range l {
		l[i].Least, l[i].Greatest = lent(l[i].Least), lent(l[i].Greatest)
	}
	return slices.Grow(l, 3)
}

// lentLive is one in memory that may be spoiled.
func lentLive(l api.Live) api.Live {
	for level, list := range l.Tables {
		l.Tables[level] = lentTables(list)
	}
	return l
}

// lentEdit is one in memory that may be spoiled.
func lentEdit(e api.Edit) api.Edit {
	e.Add, e.Drop = lentTables(e.Add), slices.Clone(e.Drop)
	return e
}

// spoilTables spoils tables, their texts, and the spare room behind them.
func spoilTables(l []api.Table) {
	for i := range l {
		spoil(l[i].Least)
		spoil(l[i].Greatest)
	}
	clear(l[:cap(l)])
}

// spoilLive spoils one.
func spoilLive(l api.Live) {
	for _, list := range l.Tables {
		spoilTables(list)
	}
}

// R3: what comes out is new memory, and what goes in stays as it was.
func TestSharesNoMemory(t *testing.T) {
	l := live(lies(9, 0, "x", "y"), lies(3, 0, "k", "l"), lies(4, 1, "e", "f"), lies(5, 1, "a", "c"), lies(6, 3, "m", "m"))
	e := with(adds(lies(7, 0, "a", "b"), lies(8, 1, "g", "h"), lies(10, 2, "n", "o")), 5, 3)
	want, _ := applied(l, e)
	mine, edit := lentLive(l), lentEdit(e)
	got, _ := manifest.Apply(mine, edit)
	checkLive(t, "the Live that was handed in", mine, l)
	if !sameEdit(edit, e) {
		t.Errorf("the edit that was handed in: %v, want %v", edit, e)
	}
	spoilLive(mine)
	spoilTables(edit.Add)
	checkLive(t, "Apply, behind what was handed in", got, want)
	mine, edit = lentLive(l), lentEdit(e)
	got, _ = manifest.Apply(mine, edit)
	spoilLive(got)
	checkLive(t, "the Live behind what came out", mine, l)
	if !sameEdit(edit, e) {
		t.Errorf("the edit behind what came out: %v, want %v", edit, e)
	}
}

// R3
func TestWholeSharesNoMemory(t *testing.T) {
	l := live(lies(3, 0, "k", "l"), lies(4, 1, "e", "f"), lies(6, 3, "m", "m"))
	for _, one := range []api.Live{l, live(lies(6, 3, "m", "m")), live(lies(6, 0, "m", "m"), lies(7, 0, "m", "m"))} {
		mine := lentLive(one)
		got := manifest.Whole(mine)
		spoilLive(mine)
		if want := slices.Concat(one.Tables[:]...); !slices.Equal(got.Add, want) {
			t.Errorf("Whole, behind what was handed in: %v, want %v", got.Add, want)
		}
		mine = lentLive(one)
		spoilTables(manifest.Whole(mine).Add)
		checkLive(t, "the Live behind what came out", mine, one)
	}
}

// R3
func TestBytesShareNoMemory(t *testing.T) {
	e := with(adds(lies(7, 0, "a", "b"), lies(8, 1, "g", "h")), 5)
	edit := lentEdit(e)
	s, _ := manifest.Encode(edit)
	spoilTables(edit.Add)
	if want := framed(t, api.FrameEdit, load(e)); s != want {
		t.Errorf("Encode, behind what was handed in: % x, want % x", s, want)
	}
	bytes := lent(load(e))
	got, _ := manifest.Decode(bytes)
	spoil(bytes)
	if !sameEdit(got, e) {
		t.Errorf("Decode, behind what was handed in: %v, want %v", got, e)
	}
	bytes, _ = written(t, adds(e.Add...), with(adds(lies(9, 1, "i", "j")), 7))
	bytes = lent(bytes)
	l, _, _, _ := manifest.Replay(bytes)
	again, _, _, _ := manifest.Replay(bytes)
	spoil(bytes)
	checkLive(t, "Replay, behind what was handed in", l, live(lies(8, 1, "g", "h"), lies(9, 1, "i", "j")))
	spoilLive(again)
	checkLive(t, "Replay, behind another one's Live", l, live(lies(8, 1, "g", "h"), lies(9, 1, "i", "j")))
	names := []string{lent("x"), lent("b"), lent("x")}
	list := manifest.Orphans(l, "", names)
	if names[0] != "x" || names[1] != "b" || names[2] != "x" {
		t.Errorf("the names that were handed in: %q", names)
	}
	for _, name := range names {
		spoil(name)
	}
	if !slices.Equal(list, []string{"b", "x"}) {
		t.Errorf("Orphans, behind what was handed in: %q", list)
	}
}
