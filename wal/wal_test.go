package wal_test

import (
	"math"
	"math/rand"
	"reflect"
	"slices"
	"strings"
	"testing"
	"unsafe"

	"tapestry/api"
	"tapestry/codec"
	"tapestry/frame"
	"tapestry/wal"
)

// of are so many bytes, all alike.
func of(c string, n int) string { return strings.Repeat(c, n) }

// gets is a put that gives a key a value, del one that takes it out.
func gets(key, value string) api.Put { return api.Put{Key: key, Value: value} }
func del(key string) api.Put         { return api.Put{Key: key, Del: true} }

// many are so many puts of one key.
func many(n int) []api.Put { return slices.Repeat([]api.Put{gets("k", "v")}, n) }

// batch is one of a sequence number.
func batch(seq uint64, l ...api.Put) api.Batch { return api.Batch{Seq: seq, Puts: l} }

// load is what a batch's frame bears, put together as the chapter says it, whether the batch may be or not.
func load(b api.Batch) string {
	parts := []string{codec.PutUint(b.Seq), codec.PutUint(uint64(len(b.Puts)))}
	for _, p := range b.Puts {
		if p.Del {
			parts = append(parts, "\x01", codec.PutText(p.Key))
		} else {
			parts = append(parts, "\x00", codec.PutText(p.Key), codec.PutText(p.Value))
		}
	}
	return strings.Join(parts, "")
}

// filled are puts whose load has so many bytes with the greatest sequence number.
func filled(t *testing.T, size int) []api.Put {
	t.Helper()
	room := func(l []api.Put) int { return size - len(load(batch(api.MaxSeq, l...))) }
	var l []api.Put
	for room(append(l, gets("k", of("v", api.MaxValue)))) > 1000 {
		l = append(l, gets("k", of("v", api.MaxValue)))
	}
	l = append(l, gets("k", of("v", 200)), gets("k", of("v", 200)))
	l[len(l)-2].Value += of("v", max(room(l)-10000, 0)) // two that share the rest
	l[len(l)-1].Value += of("v", room(l)-1)
	l[len(l)-1].Value += of("v", room(l))
	if room(l) != 0 {
		t.Fatalf("%d bytes are left of %d", room(l), size)
	}
	return l
}

// framed is a frame's bytes.
func framed(t *testing.T, kind uint8, load string) string {
	t.Helper()
	s, err := frame.Put(api.Frame{Kind: kind, Load: load})
	if err != api.OK {
		t.Fatalf("frame.Put(%d, %d bytes): %d", kind, len(load), err)
	}
	return s
}

// log are batches' bytes, one behind the other, and where each one ends.
func log(t *testing.T, l ...api.Batch) (string, []int) {
	t.Helper()
	s, ends := "", []int(nil)
	for _, b := range l {
		s += framed(t, api.FrameBatch, load(b))
		ends = append(ends, len(s))
	}
	return s, ends
}

// three are batches with sequence numbers that follow one another, with a gap ahead of the last one.
func three() []api.Batch {
	return []api.Batch{
		batch(1, gets("a", "x"), del("b")),
		batch(3, gets("a", "")),
		batch(9, gets("\x00\xff", of("y", 130)), gets("a", "z"), del("a")),
	}
}

// short is a text's beginning, as much as a failed test may tell.
func short(s string) string { return s[:min(len(s), 24)] }

func equal(a, b api.Batch) bool { return a.Seq == b.Seq && slices.Equal(a.Puts, b.Puts) }

func checkNumber(t *testing.T, name string, number uint64, ok bool) {
	t.Helper()
	if n, k := wal.Number(name); n != number || k != ok {
		t.Errorf("Number(%q): %d %t, want %d %t", short(name), n, k, number, ok)
	}
}

func checkPuts(t *testing.T, l []api.Put, err api.Errno) {
	t.Helper()
	if got := wal.Check(l); got != err {
		t.Errorf("Check(%d puts): %d, want %d", len(l), got, err)
	}
}

// checkTaken asks Encode and Decode for a batch that may be.
func checkTaken(t *testing.T, b api.Batch) {
	t.Helper()
	s, err := wal.Encode(b)
	if want := framed(t, api.FrameBatch, load(b)); s != want || err != api.OK {
		t.Errorf("Encode(%d, %d puts): % x.. %d, want % x..", b.Seq, len(b.Puts), short(s), err, short(want))
	}
	if got, err := wal.Decode(load(b)); !equal(got, b) || err != api.OK {
		t.Errorf("Decode(% x..): %d, %d puts, %d, want %d, %d", short(load(b)), got.Seq, len(got.Puts), err, b.Seq, len(b.Puts))
	}
}

// checkRefused asks Encode for an error, and Decode, by bytes that say the batch all the same, for one, too.
func checkRefused(t *testing.T, b api.Batch) {
	t.Helper()
	if s, err := wal.Encode(b); s != "" || err != api.ErrArg {
		t.Errorf("Encode(%d, %d puts): % x.. %d, want nothing, 1", b.Seq, len(b.Puts), short(s), err)
	}
	for _, p := range b.Puts {
		if p.Del && p.Value != "" {
			return // there are no bytes that say this
		}
	}
	checkNoLoad(t, load(b))
}

func checkNoLoad(t *testing.T, s string) {
	t.Helper()
	if b, err := wal.Decode(s); err != api.ErrForm || !reflect.DeepEqual(b, api.Batch{}) {
		t.Errorf("Decode(% x.., %d bytes): %d, %d puts, %d, want nothing, 3", short(s), len(s), b.Seq, len(b.Puts), err)
	}
}

func checkReplay(t *testing.T, s string, want []api.Batch, end int) {
	t.Helper()
	if l, n := wal.Replay(s); !slices.EqualFunc(l, want, equal) || n != end {
		t.Errorf("Replay(% x.., %d bytes): %d batches up to %d, want %d up to %d", short(s), len(s), len(l), n, len(want), end)
	}
}

// P5.1
func TestName(t *testing.T) {
	for _, c := range []struct {
		n uint64
		s string
	}{
		{0, "log-0000000000000000"}, {1, "log-0000000000000001"}, {9, "log-0000000000000009"}, {10, "log-000000000000000a"},
		{15, "log-000000000000000f"}, {16, "log-0000000000000010"}, {255, "log-00000000000000ff"},
		{0x0123456789abcdef, "log-0123456789abcdef"}, {0xfedcba9876543210, "log-fedcba9876543210"},
		{1 << 62, "log-4000000000000000"}, {1 << 63, "log-8000000000000000"}, {math.MaxUint64, "log-ffffffffffffffff"},
	} {
		if got := wal.Name(c.n); got != c.s {
			t.Errorf("Name(%d): %q, want %q", c.n, got, c.s)
		}
		checkNumber(t, c.s, c.n, true)
	}
}

// P5.1: of any number, and each name is one of a file, and rises as its number does.
func TestNumberReadsNames(t *testing.T) {
	r := rand.New(rand.NewSource(1))
	for range 2000 {
		a, b := r.Uint64()>>r.Intn(64), r.Uint64()>>r.Intn(64)
		checkNumber(t, wal.Name(a), a, true)
		if (a < b) != (wal.Name(a) < wal.Name(b)) {
			t.Errorf("the names of %d and %d don't rise as they do", a, b)
		}
	}
}

// P5.1
func TestNumberRefuses(t *testing.T) {
	for _, name := range []string{
		"", "l", "log", "log-", "log-0", "log-ff", "log-000000000000000", "log-00000000000000000", "log-00000000000000001",
		"log-ffffffffffffffff0", "log-10000000000000000", "log-00000000000000FF", "log-ABCDEFABCDEFABCD", "log-000000000000000g",
		"LOG-0000000000000001", "log_0000000000000001", "log0000000000000001", "0000000000000001", "log-log-0000000000000001",
		"log--000000000000001", "log-+000000000000001", "log- 000000000000001", "log-0x00000000000001", "log-0_00000000000001",
		"log-000000000000000\x00", "log-0000000000000001\x00", "log-0000000000000001 ", " log-0000000000000001", "log-0000000000000001.new",
		"table-0000000000000001", "manifest-0000000000000001", "current", "log-00000000000000\u0663", "log-" + of("0", 1000), "log-" + of("f", 1000),
	} {
		checkNumber(t, name, 0, false)
	}
}

// P5.1: every byte at every place of a name.
func TestNumberOfEveryByte(t *testing.T) {
	name := wal.Name(0xdead00beef)
	for i := range len(name) {
		for c := range 256 {
			other := name[:i] + string([]byte{byte(c)}) + name[i+1:]
			digit := strings.IndexByte("0123456789abcdef", byte(c))
			switch {
			case other == name:
				checkNumber(t, other, 0xdead00beef, true)
			case i < len("log-") || digit < 0:
				checkNumber(t, other, 0, false)
			default:
				place := 4 * (len(name) - 1 - i)
				checkNumber(t, other, 0xdead00beef&^(15<<place)|uint64(digit)<<place, true)
			}
		}
	}
	for i := range len(name) {
		checkNumber(t, name[:i], 0, false)
		checkNumber(t, name[:i]+name[i+1:], 0, false)
		checkNumber(t, name[:i]+"0"+name[i:], 0, false)
	}
}

// P5.2
func TestCheckPuts(t *testing.T) {
	for _, c := range []struct {
		p   api.Put
		err api.Errno
	}{
		{gets("k", "v"), api.OK}, {gets("k", ""), api.OK}, {gets("\x00", "\x00"), api.OK}, {del("k"), api.OK}, {del("\xff"), api.OK},
		{gets(of("k", api.MaxKey-1), ""), api.OK}, {gets(of("k", api.MaxKey), "v"), api.OK}, {del(of("k", api.MaxKey)), api.OK},
		{gets(of("k", api.MaxKey+1), "v"), api.ErrArg}, {del(of("k", api.MaxKey+1)), api.ErrArg}, {gets(of("k", 1<<20), ""), api.ErrArg},
		{gets("", "v"), api.ErrArg}, {gets("", ""), api.ErrArg}, {del(""), api.ErrArg}, {api.Put{Value: "v", Del: true}, api.ErrArg},
		{gets("k", of("v", api.MaxValue-1)), api.OK}, {gets("k", of("v", api.MaxValue)), api.OK},
		{gets("k", of("v", api.MaxValue+1)), api.ErrArg}, {gets("k", of("v", 1<<20)), api.ErrArg},
		{gets(of("k", api.MaxKey), of("v", api.MaxValue)), api.OK},
		{api.Put{Key: "k", Value: "v", Del: true}, api.ErrArg}, {api.Put{Key: "k", Value: "\x00", Del: true}, api.ErrArg},
		{api.Put{Key: "k", Value: of("v", api.MaxValue), Del: true}, api.ErrArg},
	} {
		good := gets("good", "")
		for _, l := range [][]api.Put{{c.p}, {c.p, good}, {good, c.p}, {good, c.p, good}, append(many(api.MaxBatch-1), c.p)} {
			checkPuts(t, l, c.err)
			if c.err == api.OK {
				checkTaken(t, batch(1, l...))
			} else {
				checkRefused(t, batch(1, l...))
			}
		}
	}
}

// P5.2
func TestCheckCounts(t *testing.T) {
	checkPuts(t, nil, api.OK)
	checkPuts(t, []api.Put{}, api.OK)
	for _, n := range []int{1, 2, 127, 128, api.MaxBatch - 1, api.MaxBatch} {
		checkPuts(t, many(n), api.OK)
		checkTaken(t, batch(1, many(n)...))
	}
	for _, n := range []int{api.MaxBatch + 1, 2 * api.MaxBatch, 65536, 65537} {
		checkPuts(t, many(n), api.ErrArg)
		checkRefused(t, batch(1, many(n)...))
	}
	checkPuts(t, make([]api.Put, 1), api.ErrArg)
	checkPuts(t, make([]api.Put, 1<<20), api.ErrArg)
	// The same key may stand there twice.
	checkPuts(t, []api.Put{gets("k", "v"), del("k"), gets("k", "w")}, api.OK)
}

// P5.2: the load is measured with the greatest sequence number, whatever the batch's own one is.
func TestCheckSize(t *testing.T) {
	for _, size := range []int{api.MaxFrame - 1, api.MaxFrame} {
		l := filled(t, size)
		checkPuts(t, l, api.OK)
		for _, seq := range []uint64{1, 127, 128, 1 << 40, api.MaxSeq + 1 - uint64(len(l))} {
			checkTaken(t, batch(seq, l...))
		}
	}
	for _, size := range []int{api.MaxFrame + 1, api.MaxFrame + 2, api.MaxFrame + 7, api.MaxFrame + 8, api.MaxFrame + 5000} {
		l := filled(t, size)
		checkPuts(t, l, api.ErrArg)
		for _, seq := range []uint64{1, 1 << 40, api.MaxSeq + 1 - uint64(len(l))} {
			checkRefused(t, batch(seq, l...))
		}
	}
	most := slices.Repeat([]api.Put{gets(of("k", api.MaxKey), of("v", api.MaxValue))}, api.MaxBatch)
	checkPuts(t, most, api.ErrArg)
	checkPuts(t, most[:15], api.OK)
	checkPuts(t, most[:16], api.ErrArg)
	checkPuts(t, slices.Repeat([]api.Put{del(of("k", api.MaxKey))}, api.MaxBatch), api.OK)
}

// P5.3: the bytes themselves.
func TestEncode(t *testing.T) {
	for _, c := range []struct {
		b    api.Batch
		load string
	}{
		{batch(5, gets("k", "v"), del("q")), "\x05\x02\x00\x01k\x01v\x01\x01q"},
		{batch(1, gets("k", "")), "\x01\x01\x00\x01k\x00"},
		{batch(300, del("\x00\xff"), del("\x00\xff")), "\xac\x02\x02\x01\x02\x00\xff\x01\x02\x00\xff"},
		{batch(api.MaxSeq, gets("a", "\x00\x01")), "\x80\x80\x80\x80\x80\x80\x80\x02\x01\x00\x01a\x02\x00\x01"},
		{batch(2, many(128)...), "\x02\x80\x01" + of("\x00\x01k\x01v", 128)},
		{batch(2, gets(of("k", 96), of("v", 300))), "\x02\x01\x00\x60" + of("k", 96) + "\xac\x02" + of("v", 300)},
		{batch(2, gets("k", of("v", 16384))), "\x02\x01\x00\x01k\x80\x80\x01" + of("v", 16384)},
	} {
		if got := load(c.b); got != c.load {
			t.Fatalf("the test's own load: % x.., want % x..", short(got), short(c.load))
		}
		checkTaken(t, c.b)
	}
}

// P5.3
func TestEncodeSequenceNumbers(t *testing.T) {
	for _, c := range []struct {
		seq  uint64
		puts int
		ok   bool
	}{
		{0, 1, false}, {0, 256, false}, {1, 1, true}, {1, 256, true}, {1 << 49, 256, true},
		{api.MaxSeq - 1, 1, true}, {api.MaxSeq - 1, 2, true}, {api.MaxSeq - 1, 3, false},
		{api.MaxSeq, 1, true}, {api.MaxSeq, 2, false}, {api.MaxSeq + 1, 1, false},
		{api.MaxSeq - 255, 256, true}, {api.MaxSeq - 254, 256, false}, {api.MaxSeq - 255, 257, false},
		{1 << 62, 1, false}, {1 << 63, 1, false}, {math.MaxUint64, 1, false}, {math.MaxUint64, 2, false}, {math.MaxUint64 - 254, 256, false},
	} {
		if b := batch(c.seq, many(c.puts)...); c.ok {
			checkTaken(t, b)
		} else {
			checkRefused(t, b)
		}
	}
	for _, seq := range []uint64{0, 1, api.MaxSeq, api.MaxSeq + 1, math.MaxUint64} {
		checkRefused(t, api.Batch{Seq: seq})
		checkRefused(t, api.Batch{Seq: seq, Puts: []api.Put{}})
		checkRefused(t, batch(seq, gets("", "v")))
	}
}

// P5.4: what is cut off anywhere, or has anything behind it, is no load.
func TestDecodeWholeLoads(t *testing.T) {
	for _, b := range append(three(), batch(api.MaxSeq, del("k")), batch(300, many(130)...)) {
		s := load(b)
		checkTaken(t, b)
		for n := range len(s) {
			checkNoLoad(t, s[:n])
		}
		for _, tail := range []string{"\x00", "\x01", "\xff", "\x00\x01k\x01v", "\x01\x01k", s} {
			checkNoLoad(t, s+tail)
		}
	}
	checkNoLoad(t, of("\x00", 1<<20))
	checkNoLoad(t, of("\x01", 1<<20))
	checkNoLoad(t, of("\xff", 1<<20))
}

// P5.4
func TestDecodeRefuses(t *testing.T) {
	put := "\x00\x01k\x01v"
	for _, s := range []string{
		"\x00\x01" + put, "\x01\x00", "\x01\x00" + put, "\x01\x02" + put, "\x01\x01" + put + put, // no Seq; another count
		"\x81\x00\x01" + put, "\x01\x81\x00" + put, "\x01\x01\x00\x81\x00k\x01v", "\x01\x01\x00\x01k\x81\x00v", "\x01\x01\x01\x81\x00k", // longer than it need be
		"\x01\x01\x01\x01k\x00", "\x01\x01\x01\x01k\x01v", // a Del has no value
		"\x01\x01\x00\x00\x01v", "\x01\x01\x01\x00", // no key
		"\x01\x80\x02", "\x01\x81\x02" + of(put, 257), "\x01" + codec.PutUint(math.MaxUint64) + of(put, 300), "\x01" + codec.PutUint(1<<63) + put, "\x01" + codec.PutUint(1<<32+1) + put,
		codec.PutUint(math.MaxUint64) + "\x01" + put, codec.PutUint(1<<50+1) + "\x01" + put, of("\xff", 10) + "\x01" + put,
		"\x01\x01\x00" + codec.PutUint(math.MaxUint64) + "k", "\x01\x01\x00\x01k" + codec.PutUint(math.MaxUint64) + "v",
	} {
		checkNoLoad(t, s)
	}
	for c := range 256 {
		s := "\x01\x01" + string([]byte{byte(c)}) + "\x01k"
		if c != 0 {
			checkNoLoad(t, s+"\x01v")
		}
		if c != 1 {
			checkNoLoad(t, s)
		}
	}
}

// few are all texts of these four bytes, of so many bytes at least and at most.
func few(least, most int) []string {
	l, last := []string(nil), []string{""}
	for n := range most + 1 {
		if n >= least {
			l = append(l, last...)
		}
		var next []string
		for _, s := range last {
			next = append(next, s+"\x00", s+"\x01", s+"\x02", s+"\x80")
		}
		last = next
	}
	return l
}

// fewLoads are those of these bytes alone, of so many bytes at most, and what they say.
func fewLoads(most int) map[string]api.Batch {
	var puts []api.Put
	for _, key := range few(1, 2) {
		puts = append(puts, del(key))
		for _, value := range few(0, 2) {
			puts = append(puts, gets(key, value))
		}
	}
	good := map[string]api.Batch{}
	add := func(b api.Batch) {
		if s := load(b); len(s) <= most {
			good[s] = b
		}
	}
	for _, number := range few(1, 4) {
		seq, n, err := codec.TakeUint(number)
		if err != api.OK || n < len(number) || seq == 0 {
			continue
		}
		for _, p := range puts {
			add(batch(seq, p))
		}
		for _, a := range few(1, 1) {
			for _, b := range few(1, 1) {
				add(batch(seq, del(a), del(b)))
			}
		}
	}
	return good
}

// P5.4: every row of a few bytes: just those are taken that say a batch.
func TestDecodeTakesNothingElse(t *testing.T) {
	const most = 8 // so two puts have room: they are dels of a byte
	good, found := fewLoads(most), 0
	for _, s := range few(0, most) {
		want, ok := good[s]
		if !ok {
			checkNoLoad(t, s)
			continue
		}
		found++
		if got, err := wal.Decode(s); !equal(got, want) || err != api.OK {
			t.Errorf("Decode(% x): %v %d, want %v", s, got, err, want)
		}
	}
	if found != len(good) || found == 0 {
		t.Errorf("%d loads, want %d", found, len(good))
	}
}

// randomBatch is one that may be, behind a sequence number.
func randomBatch(r *rand.Rand, behind uint64) api.Batch {
	b := api.Batch{Seq: behind + 1}
	if r.Intn(3) == 0 {
		b.Seq += r.Uint64() >> (14 + r.Intn(50)) // at most 2^50 - 1
	}
	text := func(least, most int) string {
		s := make([]byte, least+r.Intn(most-least+1))
		r.Read(s)
		return string(s)
	}
	for range 1 + r.Intn(5) {
		if r.Intn(3) == 0 {
			b.Puts = append(b.Puts, del(text(1, 8)))
		} else {
			b.Puts = append(b.Puts, gets(text(1, 8), text(0, 200)))
		}
	}
	return b
}

// P5.3, P5.4: any batches.
func TestAnyBatch(t *testing.T) {
	r := rand.New(rand.NewSource(2))
	for range 2000 {
		b := randomBatch(r, 0)
		if b.Seq+uint64(len(b.Puts))-1 > api.MaxSeq {
			checkRefused(t, b)
			continue
		}
		checkTaken(t, b)
	}
}

// P5.4: whatever a load with a few bytes changed says, that is what it says alone.
func TestDecodeOfSpoiltLoads(t *testing.T) {
	r := rand.New(rand.NewSource(3))
	taken := 0
	for range 20000 {
		s := []byte(load(randomBatch(r, 0)))
		for range 1 + r.Intn(2) {
			s[r.Intn(min(len(s), 12))] = byte(r.Intn(256)) >> r.Intn(8)
		}
		b, err := wal.Decode(string(s))
		if err != api.OK {
			checkNoLoad(t, string(s))
			continue
		}
		taken++
		if again, err := wal.Encode(b); err != api.OK || again != framed(t, api.FrameBatch, string(s)) {
			t.Errorf("Decode(% x..): %d, %d puts, of which Encode makes % x.. %d", short(string(s)), b.Seq, len(b.Puts), short(again), err)
		}
	}
	if taken == 0 || taken == 20000 {
		t.Errorf("%d of 20000 were taken", taken)
	}
}

// P5.5
func TestReplay(t *testing.T) {
	l := three()
	s, ends := log(t, l...)
	checkReplay(t, "", nil, 0)
	for n, end := range ends {
		checkReplay(t, s[:end], l[:n+1], end)
		for _, tail := range []string{"\x00", "\xff", "abcde", of("\x00", 300), s[:4]} {
			checkReplay(t, s[:end]+tail, l[:n+1], end)
			checkReplay(t, tail, nil, 0)
		}
	}
	for _, b := range l {
		one, end := log(t, b)
		checkReplay(t, one, []api.Batch{b}, end[0])
	}
	big := batch(20, filled(t, api.MaxFrame)...)
	s, ends = log(t, l[0], big, batch(api.MaxSeq, del("k")))
	checkReplay(t, s, []api.Batch{l[0], big, batch(api.MaxSeq, del("k"))}, ends[2])
	checkReplay(t, s[:ends[1]-1], l[:1], ends[0])
}

// P5.5: a batch may not stand behind one whose sequence numbers reach its own.
func TestReplayWantsRisingBatches(t *testing.T) {
	first := batch(5, many(3)...) // up to 7
	for _, c := range []struct {
		seq uint64
		ok  bool
	}{{1, false}, {4, false}, {5, false}, {6, false}, {7, false}, {8, true}, {9, true}, {1 << 40, true}, {api.MaxSeq, true}} {
		l := []api.Batch{first, batch(c.seq, gets("k", "v")), batch(api.MaxSeq-3, many(4)...)}
		s, ends := log(t, l...)
		switch {
		case !c.ok:
			checkReplay(t, s, l[:1], ends[0])
		case c.seq == api.MaxSeq:
			checkReplay(t, s, l[:2], ends[1])
		default:
			checkReplay(t, s, l, ends[2])
		}
	}
	// What counts is the batch straight ahead, and its last number.
	s, ends := log(t, batch(1, many(256)...), batch(256, del("k")), batch(257, del("k")))
	checkReplay(t, s, []api.Batch{batch(1, many(256)...)}, ends[0])
	s, ends = log(t, batch(1, many(256)...), batch(257, del("k")))
	checkReplay(t, s, []api.Batch{batch(1, many(256)...), batch(257, del("k"))}, ends[1])
}

// P5.5: the walk ends at the first frame that is none of a batch, although it is whole, and whatever stands behind it.
func TestReplayStops(t *testing.T) {
	l := three()
	_, ends := log(t, l...)
	var stops []string
	for kind := range 256 {
		if kind != 0 && kind != api.FrameBatch {
			stops = append(stops, framed(t, uint8(kind), load(l[1])))
		}
	}
	for _, b := range []api.Batch{{}, {Seq: 3}, batch(0, del("k")), batch(3, gets("", "v")), batch(api.MaxSeq, many(2)...), batch(math.MaxUint64, many(2)...), batch(3, many(257)...)} {
		stops = append(stops, framed(t, api.FrameBatch, load(b)))
	}
	for _, s := range []string{"", "\x03", "\x03\x01\x02\x01k", load(l[1]) + "\x00", load(l[1])[:5]} {
		stops = append(stops, framed(t, api.FrameBatch, s))
	}
	first, _ := log(t, l[0])
	rest, _ := log(t, l[1:]...)
	for _, stop := range stops {
		checkReplay(t, first+stop, l[:1], ends[0])
		checkReplay(t, first+stop+rest, l[:1], ends[0])
		checkReplay(t, stop+first+rest, nil, 0)
		checkReplay(t, first+rest+stop, l, ends[2])
	}
}

// otherwise is what may stand behind the first n bytes of a log in the place of what it has there: so the batch that is cut off doesn't become whole by chance.
func otherwise(s string, n int, tail string) string {
	if n == len(s) {
		return tail
	}
	return string([]byte{s[n] ^ 1}) + tail
}

// P5.6: of any beginning just the batches that are whole there.
func TestReplayOfEveryBeginning(t *testing.T) {
	l := append(three(), batch(12, gets("k", of("v", 700))), batch(13, del("k")))
	s, ends := log(t, l...)
	for n := range len(s) + 1 {
		whole, end := 0, 0
		for i, e := range ends {
			if e <= n {
				whole, end = i+1, e
			}
		}
		checkReplay(t, s[:n], l[:whole], end)
		checkReplay(t, s[:n]+otherwise(s, n, of("\x00", 256)), l[:whole], end)
	}
}

// P5.6: a log that is spoilt anywhere is replayed up to the batch ahead.
func TestReplayOfSpoiltLogs(t *testing.T) {
	l := append(three(), batch(12, del("k")))
	s, ends := log(t, l...)
	for i := range len(s) {
		ahead, end := 0, 0
		for n, e := range ends {
			if e <= i {
				ahead, end = n+1, e
			}
		}
		for bit := range 8 {
			spoilt := []byte(s)
			spoilt[i] ^= 1 << bit
			checkReplay(t, string(spoilt), l[:ahead], end)
		}
		checkReplay(t, s[:i]+s[i+1:], l[:ahead], end)
	}
}

// P5.6: any batches, and any bytes behind them.
func TestReplayOfAnyLogs(t *testing.T) {
	r := rand.New(rand.NewSource(4))
	for range 1500 {
		var l []api.Batch
		for behind := uint64(0); len(l) < r.Intn(6); {
			b := randomBatch(r, behind)
			behind = b.Seq + uint64(len(b.Puts)) - 1
			if behind > api.MaxSeq {
				break
			}
			l = append(l, b)
		}
		s, ends := log(t, l...)
		encoded := ""
		for _, b := range l {
			one, _ := wal.Encode(b)
			encoded += one
		}
		if encoded != s {
			t.Fatalf("Encode of %d batches: % x.., want % x..", len(l), short(encoded), short(s))
		}
		end := len(s)
		checkReplay(t, s, l, end)
		tail := make([]byte, r.Intn(50))
		r.Read(tail)
		checkReplay(t, s+string(tail), l, end)
		cut := r.Intn(len(s) + 1)
		whole := len(slices.DeleteFunc(slices.Clone(ends), func(e int) bool { return e > cut }))
		end = 0
		if whole > 0 {
			end = ends[whole-1]
		}
		checkReplay(t, s[:cut], l[:whole], end)
		checkReplay(t, s[:cut]+otherwise(s, cut, s), l[:whole], end)
	}
}

// within tells whether a text lies in another one's memory.
func within(s, other string) bool {
	from, at := uintptr(unsafe.Pointer(unsafe.StringData(other))), uintptr(unsafe.Pointer(unsafe.StringData(s)))
	return s != "" && at >= from && at < from+uintptr(len(other))
}

// R3: what is handed in isn't changed, and what comes out is new memory.
func TestMemoryIsNotShared(t *testing.T) {
	l := three()
	for _, b := range l {
		wal.Check(b.Puts)
		wal.Encode(b)
	}
	if !slices.EqualFunc(l, three(), equal) {
		t.Errorf("the arguments were changed: %v", l)
	}
	s, _ := log(t, l...)
	one := load(l[2])
	b, _ := wal.Decode(one)
	for _, p := range b.Puts {
		if within(p.Key, one) || within(p.Value, one) {
			t.Errorf("Decode: %q is the argument's memory", p.Key)
		}
	}
	got, _ := wal.Replay(s)
	for i, b := range got {
		for _, p := range b.Puts {
			if within(p.Key, s) || within(p.Value, s) {
				t.Errorf("Replay: %q is the argument's memory", p.Key)
			}
		}
		got[i].Puts = append(b.Puts, del("more"))[:len(b.Puts)]
	}
	if !slices.EqualFunc(got, l, equal) {
		t.Errorf("Replay: the lists share memory: %v", got)
	}
	clear(got[0].Puts)
	_ = append(got[:1], api.Batch{})
	again, _ := wal.Replay(s)
	if !slices.EqualFunc(again, l, equal) {
		t.Errorf("Replay once more: %v", again)
	}
}

// R4: what was asked before changes nothing.
func TestAnswersAreTheirArgumentsAlone(t *testing.T) {
	l := three()
	s, ends := log(t, l...)
	for range 2 {
		checkReplay(t, s, l, ends[2])
		checkReplay(t, s[ends[0]:], l[1:], ends[2]-ends[0])
		checkReplay(t, s[1:], nil, 0)
		checkTaken(t, l[0])
		checkNoLoad(t, "")
		checkPuts(t, l[2].Puts, api.OK)
	}
}
