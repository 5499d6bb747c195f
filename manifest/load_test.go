package manifest_test

import (
	"math"
	"math/rand"
	"slices"
	"testing"

	"tapestry/api"
	"tapestry/codec"
	"tapestry/manifest"
)

// P10.2: the bytes themselves.
func TestEncode(t *testing.T) {
	for _, c := range []struct {
		e    api.Edit
		load string
	}{
		{api.Edit{}, "\x00\x00\x00\x00\x00"},
		{api.Edit{Next: 3, Log: 2}, "\x03\x00\x02\x00\x00"},
		{api.Edit{Next: 9, Log: 3, Add: []api.Table{{Number: 4, Level: 1, Size: 100, Count: 2, Least: "a", Greatest: "c"}}}, "\x09\x00\x03\x01\x04\x01\x64\x02\x01a\x01c\x00"},
		{api.Edit{Next: 300, Seq: 128, Log: 1, Drop: []uint64{7, 300, 7}}, "\xac\x02\x80\x01\x01\x00\x03\x07\xac\x02\x07"},
		{api.Edit{Add: []api.Table{{Number: 1, Level: 3, Size: 1, Count: 300, Least: "\x00", Greatest: "\x00\xff"}, {Number: 1, Level: 0, Size: 128, Count: 1, Least: "b", Greatest: "b"}}, Drop: []uint64{1}},
			"\x00\x00\x00\x02" + "\x01\x03\x01\xac\x02\x01\x00\x02\x00\xff" + "\x01\x00\x80\x01\x01\x01b\x01b" + "\x01\x01"},
		{api.Edit{Next: top, Seq: top, Log: top}, of(of("\x80", 8)+"\x40", 3) + "\x00\x00"},
		{api.Edit{Drop: slices.Repeat([]uint64{1}, 1000)}, "\x00\x00\x00\x00\xe8\x07" + of("\x01", 1000)},
	} {
		if got := load(c.e); got != c.load {
			t.Fatalf("the test's own load: % x.., want % x..", short(got), short(c.load))
		}
		checkTaken(t, c.e)
	}
}

// P10.2: each part of an edit at its edges.
func TestEditMayBe(t *testing.T) {
	for _, n := range []uint64{0, 1, 127, 128, 1 << 32, top - 1, top} {
		checkTaken(t, api.Edit{Next: n})
		checkTaken(t, api.Edit{Seq: n})
		checkTaken(t, api.Edit{Log: n})
	}
	for _, n := range []uint64{top + 1, 1 << 63, math.MaxUint64} {
		checkRefused(t, api.Edit{Next: n})
		checkRefused(t, api.Edit{Seq: n})
		checkRefused(t, api.Edit{Log: n})
		checkRefused(t, api.Edit{Next: n, Seq: n, Log: n})
	}
	for _, n := range []uint64{1, 2, 1 << 50, top - 1, top} {
		checkTaken(t, api.Edit{Drop: []uint64{n}})
		checkTaken(t, api.Edit{Drop: []uint64{n, 5, n}})
	}
	for _, n := range []uint64{0, top + 1, math.MaxUint64} {
		checkRefused(t, api.Edit{Drop: []uint64{n}})
		checkRefused(t, api.Edit{Drop: []uint64{1, n, 2}})
		checkRefused(t, api.Edit{Drop: []uint64{1, 2, n}})
	}
	for _, n := range []int{1, 127, 128, 999, 1000} {
		checkTaken(t, api.Edit{Drop: slices.Repeat([]uint64{3}, n)})
		checkTaken(t, adds(slices.Repeat([]api.Table{lies(3, 1, "a", "b")}, n)...))
	}
	for _, n := range []int{1001, 1002, 1 << 16} {
		checkRefused(t, api.Edit{Drop: slices.Repeat([]uint64{3}, n)})
		checkRefused(t, adds(slices.Repeat([]api.Table{lies(3, 1, "a", "b")}, n)...))
		checkRefused(t, with(adds(lies(3, 1, "a", "b")), slices.Repeat([]uint64{3}, n)...))
	}
}

// changed are tables that each differ in one part from one that may be.
func changed(by ...func(*api.Table)) []api.Table {
	var l []api.Table
	for _, f := range by {
		one := lies(4, 1, "b", "c")
		f(&one)
		l = append(l, one)
	}
	return l
}

// bounds are tables whose numbers are as given.
func bounds(numbers []uint64, levels, sizes []int) []api.Table {
	var l []api.Table
	for _, n := range numbers {
		l = append(l, changed(func(t *api.Table) { t.Number = n })...)
	}
	for _, n := range levels {
		l = append(l, changed(func(t *api.Table) { t.Level = n })...)
	}
	for _, n := range sizes {
		l = append(l, changed(func(t *api.Table) { t.Size = n }, func(t *api.Table) { t.Count = n })...)
	}
	return l
}

// keyed are tables whose keys are as given, the least one and the greatest one of each.
func keyed(keys ...[2]string) []api.Table {
	var l []api.Table
	for _, k := range keys {
		l = append(l, changed(func(t *api.Table) { t.Least, t.Greatest = k[0], k[1] })...)
	}
	return l
}

// P10.2: each part of a table at its edges.
func TestTableMayBe(t *testing.T) {
	a, longest := of("a", 96), of("\xff", 96)
	good := bounds([]uint64{1, 2, top - 1, top}, []int{0, 1, 2, 3}, []int{1, 2, 127, 128, size - 1, size})
	good = append(good, keyed([2]string{"a", "a"}, [2]string{"a", "b"}, [2]string{"a", "aa"}, [2]string{"\x00", "\xff"}, [2]string{a, a}, [2]string{"a", a}, [2]string{a, "b"}, [2]string{longest, longest}, [2]string{"b", "b\x00"})...)
	bad := bounds([]uint64{0, top + 1, math.MaxUint64}, []int{-1, 4, 5, 256, math.MaxInt, math.MinInt}, []int{0, -1, size + 1, 1 << 32, 1<<32 + 1, math.MaxInt, math.MinInt})
	bad = append(bad, keyed([2]string{"", ""}, [2]string{"", "a"}, [2]string{"a", ""}, [2]string{"b", "a"}, [2]string{"aa", "a"}, [2]string{"\xff", "\x00"}, [2]string{"b\x00", "b"},
		[2]string{a + "a", a + "a"}, [2]string{"a", a + "a"}, [2]string{a + "a", "b"}, [2]string{"a", of("b", 1<<17)}, [2]string{a, a[1:]})...)
	bad = append(bad, api.Table{})
	other := lies(2, 2, "x", "y")
	for _, c := range good {
		checkTaken(t, adds(c))
		checkTaken(t, with(adds(other, c, c, other), 3))
	}
	for _, c := range bad {
		checkRefused(t, adds(c))
		checkRefused(t, adds(other, c))
		checkRefused(t, with(adds(c, other), 3))
	}
}

// P10.2: the greatest edit has a load that a frame bears.
func TestGreatestEdit(t *testing.T) {
	key := of("k", 96)
	e := api.Edit{Next: top, Seq: top, Log: top}
	for i := range uint64(1000) {
		e.Add = append(e.Add, api.Table{Number: top - i, Level: 3, Size: size, Count: size, Least: key, Greatest: key})
		e.Drop = append(e.Drop, top-i)
	}
	checkTaken(t, e)
}

// several are edits of several kinds.
func several() []api.Edit {
	long := api.Table{Number: top, Level: 3, Size: size, Count: size, Least: of("\x00", 96), Greatest: of("\xff", 96)}
	return []api.Edit{
		{}, {Next: 300, Seq: 1 << 40, Log: 299}, adds(lies(4, 1, "a", "c")), with(adds(lies(4, 0, "\x00", "c\xff"), lies(300, 3, "m", "m"), long), 7, 1<<30, top), with(api.Edit{Next: 5}, 1, 1, 2),
		adds(slices.Repeat([]api.Table{lies(1, 2, "a", "b")}, 130)...), with(api.Edit{}, slices.Repeat([]uint64{9}, 130)...),
	}
}

// P10.2: what is cut off anywhere, or has anything behind it, is no load.
func TestDecodeWholeLoads(t *testing.T) {
	for _, e := range several() {
		s := load(e)
		checkTaken(t, e)
		for n := range len(s) {
			checkNoLoad(t, s[:n])
		}
		for _, tail := range []string{"\x00", "\x01", "\x80", "\xff", "\x01\x01", s} {
			checkNoLoad(t, s+tail)
		}
	}
	for _, c := range []string{"\x00", "\x01", "\x02", "\x7f", "\x80", "\xff"} {
		checkNoLoad(t, of(c, 1<<19))
		checkNoLoad(t, of(c, 4))
	}
}

// P10.2
func TestDecodeRefuses(t *testing.T) {
	one, most := "\x04\x01\x64\x02\x01a\x01c", codec.PutUint(math.MaxUint64)
	for _, s := range []string{
		"\x09\x00\x03\x02" + one + "\x00", "\x09\x00\x03\x00" + one + "\x00", "\x09\x00\x03\x01" + one + one + "\x00", "\x09\x00\x03\x01" + one + "\x01", "\x09\x00\x03\x01" + one + "\x02\x01", "\x09\x00\x03\x01" + one + "\x00\x01", // another count
		"\x89\x00\x00\x03\x00\x00", "\x09\x80\x00\x03\x00\x00", "\x09\x00\x83\x00\x00\x00", "\x09\x00\x03\x80\x00\x00", "\x09\x00\x03\x00\x80\x00", "\x09\x00\x03\x00\x01\x81\x00", // longer than it need be
		"\x09\x00\x03\x01\x84\x00\x01\x64\x02\x01a\x01c\x00", "\x09\x00\x03\x01\x04\x81\x00\x64\x02\x01a\x01c\x00", "\x09\x00\x03\x01\x04\x01\xe4\x00\x02\x01a\x01c\x00",
		"\x09\x00\x03\x01\x04\x01\x64\x82\x00\x01a\x01c\x00", "\x09\x00\x03\x01\x04\x01\x64\x02\x81\x00a\x01c\x00", "\x09\x00\x03\x01\x04\x01\x64\x02\x01a\x81\x00c\x00",
		most + "\x00\x00\x00\x00", "\x00" + most + "\x00\x00\x00", "\x00\x00" + most + "\x00\x00", "\x00\x00\x00" + most + "\x00", "\x00\x00\x00\x00" + most, "\x00\x00\x00\x00" + most + of("\x01", 2000),
		"\x00\x00\x00" + codec.PutUint(1<<63) + one + "\x00", "\x00\x00\x00" + codec.PutUint(1<<32+1) + one + "\x00", "\x00\x00\x00\x00" + codec.PutUint(1<<32+1) + "\x01", "\x00\x00\x00\x00\x01" + most,
		"\x09\x00\x03\x01\x04" + most + "\x64\x02\x01a\x01c\x00", "\x09\x00\x03\x01\x04" + codec.PutUint(1<<32+1) + "\x64\x02\x01a\x01c\x00", "\x09\x00\x03\x01\x04\x01" + most + "\x02\x01a\x01c\x00", "\x09\x00\x03\x01\x04\x01\x64" + codec.PutUint(1<<63+1) + "\x01a\x01c\x00",
		"\x09\x00\x03\x01\x04\x01\x64\x02" + most + "a\x01c\x00", of("\xff", 10) + "\x00\x00\x00\x00",
	} {
		checkNoLoad(t, s)
	}
}

// P10.2: of any bytes that are much like a load: those that a plain reader takes, and no other ones.
func TestDecodeOfAnyBytes(t *testing.T) {
	r := rand.New(rand.NewSource(3))
	taken := 0
	for range 20000 {
		s := []byte(load(several()[r.Intn(5)]))
		for range 1 + r.Intn(2) {
			i := r.Intn(len(s))
			s[i] = []byte{0, 1, 2, 3, 4, 5, s[i] ^ 1<<r.Intn(8), byte(r.Intn(256))}[r.Intn(8)]
		}
		e, err := manifest.Decode(string(s))
		if err != api.OK {
			checkNoLoad(t, string(s))
			continue
		}
		taken++
		if !mayBe(e) || load(e) != string(s) {
			t.Errorf("Decode(% x): %v, whose load is % x", s, e, load(e))
		}
	}
	if taken < 2000 {
		t.Errorf("only %d were taken", taken)
	}
}

// P10.2: the other way round: of bytes that say an edit that may be, whatever they are, none is refused.
func TestDecodeTakesAllEdits(t *testing.T) {
	r := rand.New(rand.NewSource(4))
	key := func() string { return of(string([]byte{byte(r.Intn(256))}), r.Intn(98)) }
	number := func() uint64 { return r.Uint64() >> (1 + r.Intn(63)) }
	for range 4000 {
		e := api.Edit{Next: number(), Seq: number(), Log: number()}
		for range r.Intn(3) {
			least, greatest := key(), key()
			e.Add = append(e.Add, api.Table{Number: number(), Level: r.Intn(5), Size: int(number() % (size + 2)), Count: int(number() % (size + 2)), Least: min(least, greatest), Greatest: max(least, greatest)})
		}
		for range r.Intn(3) {
			e.Drop = append(e.Drop, number())
		}
		if mayBe(e) {
			checkTaken(t, e)
		} else {
			checkRefused(t, e)
		}
	}
}
