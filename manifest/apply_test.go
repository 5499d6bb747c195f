package manifest_test

import (
	"math"
	"math/rand"
	"reflect"
	"slices"
	"testing"

	"tapestry/api"
	"tapestry/manifest"
)

// P10.3: none of the three numbers falls.
func TestApplyNumbers(t *testing.T) {
	l := api.Live{Next: 9, Seq: 7, Log: 5}
	for next := uint64(8); next <= 10; next++ {
		for seq := uint64(6); seq <= 8; seq++ {
			for log := uint64(4); log <= 6; log++ {
				no := api.OK
				if next < 9 || seq < 7 || log < 5 {
					no = api.ErrForm
				}
				_, err := checkApply(t, "numbers", l, api.Edit{Next: next, Seq: seq, Log: log})
				checkErr(t, "numbers", err, no)
			}
		}
	}
	for _, odd := range []api.Live{{Next: top + 1}, {Seq: math.MaxUint64}, {Log: 1 << 63}} {
		_, err := checkApply(t, "numbers that no edit has", odd, api.Edit{Next: top, Seq: top, Log: top})
		checkErr(t, "numbers that no edit has", err, api.ErrForm)
	}
}

// P10.3
func TestApplyDrops(t *testing.T) {
	l := live(lies(4, 0, "a", "z"), lies(6, 0, "a", "z"), lies(5, 1, "a", "c"), lies(7, 1, "d", "f"), lies(8, 3, "a", "z"))
	checkApplied(t, "nothing", l, adds(), api.OK, 1, 5, 7)
	checkApplied(t, "one", l, with(adds(), 5), api.OK, 1, 7)
	checkApplied(t, "of level 0", l, with(adds(), 4), api.OK, 0, 6)
	checkApplied(t, "of several levels", l, with(adds(), 8, 7, 4, 5), api.OK, 0, 6)
	checkApplied(t, "of several levels", l, with(adds(), 8, 7, 4, 5), api.OK, 1)
	checkApplied(t, "all", l, with(adds(), 4, 5, 6, 7, 8), api.OK, 0)
	checkApplied(t, "one that is none's", l, with(adds(), 9), api.ErrForm, 0)
	checkApplied(t, "one that is none's, behind others", l, with(adds(), 4, 5, 9), api.ErrForm, 0)
	checkApplied(t, "one that is none's, ahead of others", l, with(adds(), 1, 4), api.ErrForm, 0)
	checkApplied(t, "one twice", l, with(adds(), 4, 4), api.ErrForm, 0)
	checkApplied(t, "one twice, with others between", l, with(adds(), 4, 5, 6, 4), api.ErrForm, 0)
	checkApplied(t, "of nothing", api.Live{}, with(adds(), 4), api.ErrForm, 0)
	// What is added by the same edit can't be dropped by it: that is no table of l.
	checkApplied(t, "one that is added", l, with(adds(lies(9, 0, "a", "b")), 9), api.ErrForm, 0)
}

// P10.3
func TestApplyAdds(t *testing.T) {
	l := live(lies(4, 0, "a", "z"), lies(5, 1, "d", "f"), lies(8, 3, "a", "z"))
	checkApplied(t, "to nothing", api.Live{}, adds(lies(5, 2, "a", "b")), api.OK, 2, 5)
	checkApplied(t, "one below Next", l, adds(lies(99, 0, "a", "b")), api.OK, 0, 4, 99)
	checkApplied(t, "Next", l, adds(lies(100, 0, "a", "b")), api.ErrForm, 0)
	checkApplied(t, "above Next", l, adds(lies(101, 0, "a", "b")), api.ErrForm, 0)
	checkApplied(t, "the greatest", l, adds(lies(top, 0, "a", "b")), api.ErrForm, 0)
	// It is the edit's Next that counts, not the one ahead.
	checkApplied(t, "below a greater Next", l, api.Edit{Next: 101, Add: []api.Table{lies(100, 0, "a", "b")}}, api.OK, 0, 4, 100)
	checkApplied(t, "below no Next", api.Live{}, api.Edit{Add: []api.Table{lies(1, 0, "a", "b")}}, api.ErrForm, 0)
	checkApplied(t, "two of one number", l, adds(lies(9, 0, "a", "b"), lies(9, 2, "c", "d")), api.ErrForm, 0)
	checkApplied(t, "two of one number and level", l, adds(lies(9, 0, "a", "b"), lies(10, 0, "c", "d"), lies(9, 0, "c", "d")), api.ErrForm, 0)
	checkApplied(t, "the number of a live one", l, adds(lies(4, 0, "a", "b")), api.ErrForm, 0)
	checkApplied(t, "the number of a live one of another level", l, adds(lies(8, 0, "a", "b")), api.ErrForm, 0)
	checkApplied(t, "the number of one that is dropped", l, with(adds(lies(4, 0, "x", "y")), 4), api.OK, 0, 4)
	checkApplied(t, "the number of one that is dropped, elsewhere", l, with(adds(lies(4, 2, "x", "y")), 4), api.OK, 2, 4)
	checkApplied(t, "the number of one while another one is dropped", l, with(adds(lies(4, 0, "a", "b")), 5), api.ErrForm, 0)
	got, _ := checkApply(t, "all of what an Add says", api.Live{}, adds(api.Table{Number: 9, Level: 2, Size: 77, Count: 5, Least: "k", Greatest: "m"}))
	if want := (api.Table{Number: 9, Level: 2, Size: 77, Count: 5, Least: "k", Greatest: "m"}); got.Tables[2][0] != want {
		t.Errorf("added: %v, want %v", got.Tables[2][0], want)
	}
}

// P10.3: in the levels of 1 and above no two tables overlap, be it by one key.
func TestApplyOverlaps(t *testing.T) {
	for _, c := range []struct {
		least, greatest string
		no              api.Errno
	}{
		{"a", "c", api.OK}, {"a", "d", api.ErrForm}, {"a", "z", api.ErrForm}, {"d", "d", api.ErrForm}, {"e", "e", api.ErrForm}, {"d", "f", api.ErrForm}, {"f", "f", api.ErrForm},
		{"f", "z", api.ErrForm}, {"f\x00", "l", api.OK}, {"f\x00", "m", api.ErrForm}, {"a", "c\xff", api.OK}, {"g", "g", api.OK}, {"e", "h", api.ErrForm}, {"\x00", "\x00", api.OK}, {"\xff", "\xff", api.OK}, {"g", "m", api.ErrForm}, {"g", "l", api.OK},
	} {
		for level := 1; level < api.Levels; level++ {
			l := live(lies(5, level, "d", "f"), lies(6, level, "m", "p"))
			one := lies(9, level, c.least, c.greatest)
			_, err := checkApply(t, "overlap of "+c.least+" to "+c.greatest, l, adds(one))
			checkErr(t, "overlap of "+c.least+" to "+c.greatest, err, c.no)
			_, err = checkApply(t, "both added", api.Live{}, adds(one, lies(5, level, "d", "f"), lies(6, level, "m", "p")))
			checkErr(t, "both added", err, c.no)
			// What is dropped is out of the way, and so are other levels, and level 0 as a whole.
			_, err = checkApply(t, "dropped", l, with(adds(one), 6, 5))
			checkErr(t, "dropped", err, api.OK)
			one.Level = level%3 + 1
			_, err = checkApply(t, "other levels", l, adds(one))
			checkErr(t, "other levels", err, api.OK)
			_, err = checkApply(t, "level 0", live(lies(5, 0, "d", "f")), adds(lies(9, 0, c.least, c.greatest)))
			checkErr(t, "level 0", err, api.OK)
		}
	}
}

// P10.3: level 0 rises by numbers, the others do by keys.
func TestApplyOrder(t *testing.T) {
	l := live(lies(4, 0, "m", "n"), lies(8, 0, "a", "b"), lies(5, 1, "m", "n"), lies(9, 1, "r", "s"), lies(7, 2, "m", "n"))
	e := adds(lies(6, 0, "x", "y"), lies(3, 0, "a", "z"), lies(90, 0, "c", "d"), lies(2, 1, "z", "z"), lies(91, 1, "a", "b"), lies(1, 1, "o", "q"), lies(92, 2, "b", "c"))
	checkApplied(t, "order", l, e, api.OK, 0, 3, 4, 6, 8, 90)
	checkApplied(t, "order", l, e, api.OK, 1, 91, 5, 1, 9, 2)
	checkApplied(t, "order", l, e, api.OK, 2, 92, 7)
	checkApplied(t, "order behind drops", l, with(e, 9, 4), api.OK, 0, 3, 6, 8, 90)
	checkApplied(t, "order behind drops", l, with(e, 9, 4), api.OK, 1, 91, 5, 1, 2)
	checkApplied(t, "keys as bytes", api.Live{}, adds(lies(1, 3, "\xff", "\xff"), lies(2, 3, "a\x00", "a\x00"), lies(3, 3, "a", "a"), lies(4, 3, "é", "é"), lies(5, 3, "Z", "Z"), lies(6, 3, "\x00", "\x00\xff")), api.OK, 3, 6, 5, 3, 2, 4, 1)
}

// P10.3: ErrArg is told ahead of ErrForm.
func TestApplyErrorsInOrder(t *testing.T) {
	l := live(lies(4, 1, "a", "c"))
	bad := adds(lies(200, 1, "b", "d"), lies(4, 1, "a", ""))
	_, err := checkApply(t, "both errors", l, bad)
	checkErr(t, "both errors", err, api.ErrArg)
	_, err = checkApply(t, "both errors", l, with(api.Edit{}, 9, 9, 0))
	checkErr(t, "both errors", err, api.ErrArg)
}

// P10.3: of a Live that no edits make: it goes by what that says, and puts it in order.
func TestApplyOddLives(t *testing.T) {
	odd := live(lies(9, 0, "a", "b"), lies(4, 0, "a", "b"), lies(4, 0, "c", "d"), lies(6, 2, "x", "y"), lies(5, 2, "a", "b"), lies(4, 3, "a", "b"))
	checkApplied(t, "out of order", odd, adds(), api.OK, 0, 4, 4, 9)
	checkApplied(t, "out of order", odd, adds(), api.OK, 2, 5, 6)
	checkApplied(t, "three of one number are dropped", odd, with(adds(), 4), api.OK, 0, 9)
	checkApplied(t, "three of one number are dropped", odd, with(adds(), 4), api.OK, 3)
	checkApplied(t, "an overlap of its own", live(lies(1, 1, "a", "m"), lies(2, 1, "c", "d")), adds(), api.ErrForm, 1)
	checkApplied(t, "an overlap of its own, dropped", live(lies(1, 1, "a", "m"), lies(2, 1, "c", "d")), with(adds(), 1), api.OK, 1, 2)
	checkApplied(t, "an overlap far behind", live(lies(1, 1, "a", "m"), lies(3, 1, "x", "z"), lies(2, 1, "m", "o")), adds(), api.ErrForm, 1)
	none := live(api.Table{Level: 1}, api.Table{Level: 0})
	checkApplied(t, "a table of noughts", none, adds(), api.OK, 1, 0)
	none.Tables[1] = append(none.Tables[1], api.Table{})
	checkApplied(t, "two tables of noughts", none, adds(), api.ErrForm, 1)
	var strange api.Live
	strange.Tables[2] = []api.Table{lies(7, 0, "x", "y"), lies(8, -5, "a", "b")}
	checkApplied(t, "levels that say otherwise", strange, adds(), api.OK, 2, 8, 7)
}

// anyTable is a table of few numbers and keys.
func anyTable(r *rand.Rand) api.Table {
	keys := []string{"a", "b", "c", "d", "e", "f", "g", "h"}
	i, j := r.Intn(8), r.Intn(8)
	if r.Intn(3) > 0 {
		j = i
	}
	return lies(uint64(1+r.Intn(12)), r.Intn(4), keys[min(i, j)], keys[max(i, j)])
}

// anyEdit is an edit that is often one that can be done to live tables, and now and then one that may not be.
func anyEdit(r *rand.Rand, l api.Live) api.Edit {
	e := api.Edit{Next: l.Next + uint64(r.Intn(4)), Seq: l.Seq + uint64(r.Intn(3)), Log: l.Log + uint64(r.Intn(3))}
	all := slices.Concat(l.Tables[:]...)
	for _, i := range r.Perm(len(all))[:r.Intn(len(all)+1)/2] {
		e.Drop = append(e.Drop, all[i].Number)
	}
	for range r.Intn(3) {
		one := anyTable(r)
		if r.Intn(4) > 0 {
			one.Number = l.Next + uint64(r.Intn(3))
		}
		e.Add = append(e.Add, one)
	}
	switch r.Intn(24) {
	case 0:
		e.Drop = append(e.Drop, uint64(r.Intn(14)))
	case 1:
		e.Next, e.Seq, e.Log = uint64(r.Intn(20)), uint64(r.Intn(20)), uint64(r.Intn(20))
	case 2:
		e.Add = append(e.Add, lies(1, r.Intn(6)-1, "b", "b"))
	}
	return e
}

// P10.3, P10.4, P10.7: any edits, one behind the other, held against what the chapter says.
func TestApplyAnyEdits(t *testing.T) {
	r := rand.New(rand.NewSource(5))
	told := map[api.Errno]int{}
	for range 400 {
		var l api.Live
		for range 40 {
			next, err := checkApply(t, "any edit", l, anyEdit(r, l))
			told[err]++
			if err == api.OK {
				l = next
			}
			whole := manifest.Whole(l)
			again, err := manifest.Apply(api.Live{}, whole)
			checkErr(t, "Apply of Whole", err, api.OK)
			checkLive(t, "Apply of Whole", again, l)
		}
	}
	if told[api.OK] < 2000 || told[api.ErrForm] < 2000 || told[api.ErrArg] < 200 {
		t.Errorf("not all was tried: %v", told)
	}
}

// P10.3: of any Live that is handed in, in order or not, its keys the right way round or not.
func TestApplyAnyLives(t *testing.T) {
	r := rand.New(rand.NewSource(6))
	told := map[api.Errno]int{}
	for range 20000 {
		var l api.Live
		l.Next = uint64(r.Intn(14))
		for range r.Intn(5) {
			one, level := anyTable(r), r.Intn(4)
			if r.Intn(3) == 0 {
				one.Least, one.Greatest = one.Greatest, one.Least
			}
			l.Tables[level] = append(l.Tables[level], one)
		}
		e := anyEdit(r, l)
		e.Next += 13
		_, err := checkApply(t, "any Live", l, e)
		told[err]++
	}
	if told[api.OK] < 2000 || told[api.ErrForm] < 2000 {
		t.Errorf("not all was tried: %v", told)
	}
}

// P10.4
func TestWhole(t *testing.T) {
	l := live(lies(4, 0, "m", "n"), lies(8, 0, "a", "b"), lies(9, 1, "a", "b"), lies(5, 1, "r", "s"), lies(6, 3, "a", "b"))
	l.Next, l.Seq, l.Log = 50, 60, 70
	e := manifest.Whole(l)
	if want := slices.Concat(l.Tables[:]...); e.Next != 50 || e.Seq != 60 || e.Log != 70 || !slices.Equal(e.Add, want) || len(e.Drop) != 0 {
		t.Errorf("Whole: %v, want 50 60 70 %v", e, want)
	}
	if e := manifest.Whole(api.Live{}); !reflect.DeepEqual(e, api.Edit{}) {
		t.Errorf("Whole of noughts: %v", e)
	}
	odd := live(lies(8, 0, "a", "b"), lies(4, 0, "m", "n"), lies(4, 2, "z", "a"), api.Table{Level: 2})
	odd.Tables[1] = []api.Table{lies(7, 3, "x", "y")}
	if e, want := manifest.Whole(odd), slices.Concat(odd.Tables[:]...); e.Next != 100 || !slices.Equal(e.Add, want) || len(e.Drop) != 0 {
		t.Errorf("Whole, as it stands: %v, want %v", e, want)
	}
}

// P10.7: up to 1000 tables.
func TestWholeOfManyTables(t *testing.T) {
	key := func(i int) string { return string([]byte{'k', byte(i >> 8), byte(i)}) }
	var edits []api.Edit
	for i := range 1000 {
		edits = append(edits, api.Edit{Next: uint64(i + 2), Seq: uint64(i), Log: 1, Add: []api.Table{lies(uint64(i+1), i%4, key(999-i), key(999-i))}})
	}
	s, _ := written(t, edits...)
	l, many, end, err := manifest.Replay(s)
	checkErr(t, "Replay", err, api.OK)
	if many != 1000 || end != len(s) {
		t.Errorf("Replay: %d edits up to %d, want 1000 up to %d", many, end, len(s))
	}
	whole := manifest.Whole(l)
	checkTaken(t, whole)
	again, err := manifest.Apply(api.Live{}, whole)
	checkErr(t, "Apply of Whole", err, api.OK)
	checkLive(t, "Apply of Whole", again, l)
	s, err = manifest.Encode(whole)
	checkErr(t, "Encode of Whole", err, api.OK)
	checkReplay(t, "Replay of Whole", s, l, 1, len(s), api.OK)
}

// row are edits that follow one another.
func row() []api.Edit {
	return []api.Edit{
		{Next: 3, Log: 2},
		{Next: 5, Seq: 9, Log: 4, Add: []api.Table{lies(3, 0, "a", "z")}},
		{Next: 5, Seq: 9, Log: 4},
		{Next: 9, Seq: 300, Log: 6, Add: []api.Table{lies(8, 0, "b", "y"), lies(5, 1, "a", "c"), lies(7, 1, "d", "z")}, Drop: []uint64{3}},
		{Next: 10, Seq: 300, Log: 6, Add: []api.Table{lies(9, 1, "a", "d")}, Drop: []uint64{7, 5}},
	}
}

// states are what edits make, one by one, from noughts on.
func states(t *testing.T, l ...api.Edit) []api.Live {
	t.Helper()
	all := make([]api.Live, 1)
	for _, e := range l {
		next, err := applied(all[len(all)-1], e)
		if err != api.OK {
			t.Fatalf("the test's own edit %v: %d", e, err)
		}
		all = append(all, next)
	}
	return all
}

// P10.5, P10.7: a manifest that ends anywhere.
func TestReplayCutAnywhere(t *testing.T) {
	s, ends := written(t, row()...)
	all := states(t, row()...)
	for n := range len(s) + 1 {
		many, end := 0, 0
		for i, e := range ends {
			if e <= n {
				many, end = i+1, e
			}
		}
		checkReplay(t, "cut off", s[:n], all[many], many, end, api.OK)
	}
}

// P10.5: bytes that are spoiled end it, too: they are no frame.
func TestReplaySpoiledAnywhere(t *testing.T) {
	s, ends := written(t, row()...)
	all := states(t, row()...)
	for n := range len(s) {
		many, end := 0, 0
		for i, e := range ends {
			if e <= n {
				many, end = i+1, e
			}
		}
		for bit := range 8 {
			b := []byte(s)
			b[n] ^= 1 << bit
			checkReplay(t, "spoiled", string(b), all[many], many, end, api.OK)
		}
	}
	for _, tail := range []string{"", "x", "\x00", of("\x00", 5), of("\x00", 500), of("\xff", 500), s[1:], s[:len(s)-1][ends[3]:]} {
		checkReplay(t, "something behind", s+tail, all[len(all)-1], len(ends), len(s), api.OK)
	}
	checkReplay(t, "nothing", "", api.Live{}, 0, 0, api.OK)
}

// P10.5: a frame that is whole, and is no edit that can be done, is an error beside what stands ahead.
func TestReplayBroken(t *testing.T) {
	all := states(t, row()...)
	s, ends := written(t, row()...)
	good := load(row()[4])
	for many := range len(all) {
		end := 0
		if many > 0 {
			end = ends[many-1]
		}
		bad := []string{framed(t, api.FrameEdit, ""), framed(t, api.FrameEdit, "x"), framed(t, api.FrameEdit, good+"\x00"), framed(t, api.FrameEdit, good[1:]), framed(t, api.FrameEdit, of("\x00", api.MaxFrame))}
		for kind := range 255 {
			if kind+1 != api.FrameEdit {
				bad = append(bad, framed(t, uint8(kind+1), good), framed(t, uint8(kind+1), load(api.Edit{Next: 100, Seq: 1000, Log: 100})))
			}
		}
		for _, e := range []api.Edit{with(api.Edit{Next: 100, Seq: 1000, Log: 100}, 99), {Next: 100, Seq: 1000, Log: 100, Add: []api.Table{lies(100, 0, "a", "b")}}, {Next: top + 1, Seq: 1000, Log: 100}} {
			bad = append(bad, framed(t, api.FrameEdit, load(e)))
		}
		for _, b := range bad {
			checkReplay(t, "broken", s[:end]+b, all[many], many, end, api.ErrBroken)
			checkReplay(t, "broken, with more behind", s[:end]+b+s[end:], all[many], many, end, api.ErrBroken)
			checkReplay(t, "not whole", s[:end]+b[:len(b)-1], all[many], many, end, api.OK)
		}
		if many > 1 {
			checkReplay(t, "from the beginning again", s[:end]+s, all[many], many, end, api.ErrBroken)
		}
	}
}

// P10.5: any edits, of which some can't be done.
func TestReplayAnyEdits(t *testing.T) {
	r := rand.New(rand.NewSource(7))
	told := map[api.Errno]int{}
	for range 3000 {
		var l, behind api.Live
		s, many, end, no := "", 0, 0, api.OK
		for range r.Intn(12) {
			e := anyEdit(r, l)
			if r.Intn(8) > 0 {
				if _, err := applied(l, e); err != api.OK {
					continue
				}
			}
			for _, one := range e.Add {
				if one.Level < 0 {
					e.Add = nil // there are no bytes that say this
				}
			}
			next, err := applied(l, e)
			s += framed(t, api.FrameEdit, load(e))
			if no == api.OK && err == api.OK {
				behind, many, end = next, many+1, len(s)
			} else {
				no = api.ErrBroken
			}
			if err == api.OK {
				l = next
			}
		}
		checkReplay(t, "any edits", s, behind, many, end, no)
		told[no]++
	}
	if told[api.OK] < 500 || told[api.ErrBroken] < 500 {
		t.Errorf("not all was tried: %v", told)
	}
}

// R4: what is answered hangs on the arguments alone.
func TestAnswersAreTheSameAgain(t *testing.T) {
	s, ends := written(t, row()...)
	all := states(t, row()...)
	for range 3 {
		checkReplay(t, "again", s, all[5], 5, ends[4], api.OK)
		checkReplay(t, "again", s[:ends[1]], all[2], 2, ends[1], api.OK)
		for i, e := range row() {
			got, err := manifest.Apply(all[i], e)
			checkErr(t, "again", err, api.OK)
			checkLive(t, "again", got, all[i+1])
		}
	}
}
