package table_test

import (
	"encoding/binary"
	"math"
	"math/rand"
	"slices"
	"strings"
	"testing"

	"tapestry/api"
	"tapestry/codec"
	"tapestry/memtable"
	"tapestry/table"
)

// of are so many bytes, all alike.
func of(c string, n int) string { return strings.Repeat(c, n) }

// gets is a version that gives a key a value, del one that takes it out.
func gets(key string, seq uint64, value string) api.Version {
	return api.Version{Key: key, Seq: seq, Value: value}
}
func del(key string, seq uint64) api.Version { return api.Version{Key: key, Seq: seq, Del: true} }

// place are a place's bytes, as the chapter says them, whether the version may be or not.
func place(v api.Version) string {
	n := 2 * v.Seq
	if v.Del {
		n++
	}
	return strings.ReplaceAll(v.Key, "\x00", "\x00\xff") + "\x00\x01" + string(binary.BigEndian.AppendUint64(nil, ^n))
}

// common is how many bytes two texts begin with alike.
func common(a, b string) int {
	n := 0
	for n < len(a) && n < len(b) && a[n] == b[n] {
		n++
	}
	return n
}

// entry is a version in a block behind a place of which it takes so many bytes.
func entry(n int, v api.Version) string {
	s := codec.PutUint(uint64(n)) + codec.PutText(place(v)[n:])
	if !v.Del {
		s += codec.PutText(v.Value)
	}
	return s
}

// load is a block of versions, as the chapter says it, whether they may be and stand in order or not.
func load(l ...api.Version) string {
	s := ""
	for i, v := range l {
		n := 0
		if i%16 != 0 {
			n = common(place(v), place(l[i-1]))
		}
		s += entry(n, v)
	}
	return s
}

// run are so many versions in order, of keys that begin alike; each third key has three versions, one of them a Del.
func run(many int) []api.Version {
	var l []api.Version
	for i := 0; len(l) < many; i++ {
		key := "key/" + string([]byte{byte(i >> 8), byte(i)})
		if i%3 == 0 {
			l = append(l, gets(key, uint64(1000+i), "new"), del(key, uint64(500+i)))
		}
		l = append(l, gets(key, uint64(1+i), of("v", i%7)))
	}
	return l[:many]
}

// refused are versions that may not be.
func refused() []api.Version {
	return []api.Version{
		{}, gets("", 1, "v"), del("", 1), gets(of("k", 97), 1, "v"), del(of("k", 97), 1), gets(of("\x00", 97), 1, ""), gets(of("k", 5000), 1, ""),
		gets("k", 0, "v"), del("k", 0), gets("k", 1<<50+1, "v"), del("k", 1<<50+1), gets("k", 1<<62, ""), gets("k", 1<<63, ""), gets("k", 1<<63+1, ""), gets("k", math.MaxUint64, ""),
		gets("k", 1, of("v", 16385)), gets("k", 1, of("v", 1<<20)), {Key: "k", Seq: 1, Del: true, Value: "v"}, {Key: "k", Seq: 1, Del: true, Value: of("v", 16384)},
	}
}

// taken are versions that may just be.
func taken() []api.Version {
	return []api.Version{
		gets("a", 1, ""), gets("a", 1, "x"), del("a", 1), gets("\x00", 2, "\x00"), gets("\x00\xff\x00\x01", 3, ""), gets("\xff", 4, ""), gets("a\x00", 255, ""), gets("a\x00\x01", 256, ""),
		gets(of("k", 96), 1<<50, of("v", 16384)), del(of("\x00", 96), 1<<50), gets(of("\xff", 96), 1<<50-1, ""), gets("é", 1<<32, of("\xff", 127)), del("k", 1<<32-1), gets("k", 1, of("v", 128)),
	}
}

// short is a text's beginning, as much as a failed test may tell.
func short(s string) string { return s[:min(len(s), 24)] }

func checkErr(t *testing.T, what string, got, want api.Errno) {
	t.Helper()
	if got != want {
		t.Errorf("%s: %d, want %d", what, got, want)
	}
}

// brief is a version without the greater part of a long value.
func brief(v api.Version) api.Version {
	v.Key, v.Value = short(v.Key), short(v.Value)
	return v
}

func checkVersion(t *testing.T, what string, got, want api.Version) {
	t.Helper()
	if got != want {
		t.Errorf("%s: %v, want %v", what, brief(got), brief(want))
	}
}

func checkList(t *testing.T, what string, got, want []api.Version) {
	t.Helper()
	if slices.Equal(got, want) {
		return
	}
	t.Errorf("%s: %d versions, want %d", what, len(got), len(want))
	for i := range min(len(got), len(want)) {
		if got[i] != want[i] {
			t.Errorf("%s: the version %d: %v, want %v", what, i, brief(got[i]), brief(want[i]))
			return
		}
	}
}

func checkNoKey(t *testing.T, s string) {
	t.Helper()
	if v, err := table.DecodeKey(s); v != (api.Version{}) || err != api.ErrForm {
		t.Errorf("DecodeKey(% x..): %v %d, want nothing, 3", short(s), v, err)
	}
}

// checkBlock asks for a block's bytes both ways.
func checkBlock(t *testing.T, l []api.Version, want string) {
	t.Helper()
	if s, err := table.EncodeBlock(l); s != want || err != api.OK {
		t.Errorf("EncodeBlock(%d versions): % x.. %d, want % x..", len(l), short(s), err, short(want))
	}
	got, err := table.DecodeBlock(want)
	checkErr(t, "DecodeBlock", err, api.OK)
	checkList(t, "DecodeBlock", got, l)
}

// checkNotEncoded asks EncodeBlock for an error, and DecodeBlock, by bytes that say the same, for one, too.
func checkNotEncoded(t *testing.T, l []api.Version, want api.Errno) {
	t.Helper()
	if s, err := table.EncodeBlock(l); s != "" || err != want {
		t.Errorf("EncodeBlock(%d versions): % x.. %d, want nothing, %d", len(l), short(s), err, want)
	}
	for _, v := range l {
		if v.Del && v.Value != "" || v.Seq >= 1<<63 {
			return // there are no bytes that say this
		}
	}
	checkNoBlock(t, load(l...))
}

func checkNoBlock(t *testing.T, s string) {
	t.Helper()
	if l, err := table.DecodeBlock(s); len(l) != 0 || err != api.ErrForm {
		t.Errorf("DecodeBlock(% x.., %d bytes): %d versions, %d, want none, 3", short(s), len(s), len(l), err)
	}
}

// P8.1
func TestEncodeKey(t *testing.T) {
	for _, c := range []struct {
		v    api.Version
		want string
	}{
		{gets("a", 1, ""), "a\x00\x01\xff\xff\xff\xff\xff\xff\xff\xfd"}, {del("a", 1), "a\x00\x01\xff\xff\xff\xff\xff\xff\xff\xfc"},
		{gets("a", 2, "x"), "a\x00\x01\xff\xff\xff\xff\xff\xff\xff\xfb"}, {gets("a", 128, ""), "a\x00\x01\xff\xff\xff\xff\xff\xff\xfe\xff"},
		{gets("\x00b", 1, ""), "\x00\xffb\x00\x01\xff\xff\xff\xff\xff\xff\xff\xfd"}, {gets("a", 1<<50, ""), "a\x00\x01\xff\xf7\xff\xff\xff\xff\xff\xff"},
		{del("a", 1<<50), "a\x00\x01\xff\xf7\xff\xff\xff\xff\xff\xfe"}, {gets("a", 1<<50-1, ""), "a\x00\x01\xff\xf8\x00\x00\x00\x00\x00\x01"},
	} {
		if got := table.EncodeKey(c.v); got != c.want {
			t.Errorf("EncodeKey(%v): % x, want % x", c.v, got, c.want)
		}
	}
	for _, v := range refused() {
		if got := table.EncodeKey(v); got != "" {
			t.Errorf("EncodeKey(%v): % x, want nothing", brief(v), got)
		}
	}
}

// P8.1: both ways, of all versions that may be; the value is not in it.
func TestKeysBothWays(t *testing.T) {
	for _, v := range append(run(300), taken()...) {
		if got := table.EncodeKey(v); got != place(v) {
			t.Errorf("EncodeKey(%v): % x, want % x", brief(v), got, place(v))
		}
		got, err := table.DecodeKey(place(v))
		v.Value = ""
		checkVersion(t, "DecodeKey", got, v)
		checkErr(t, "DecodeKey", err, api.OK)
	}
}

// P8.1: they rise as versions stand in order.
func TestKeysRise(t *testing.T) {
	r := rand.New(rand.NewSource(8))
	keys := []string{"a", "a\x00", "a\x00\x00", "a\x00\x01", "a\x00\xff", "a\x01", "aa", "b", "\x00", "\x00\x00", "\x01", "\xff", "\xff\xff", of("\x00", 96), of("\xff", 96)}
	some := func() api.Version {
		v := gets(keys[r.Intn(len(keys))], 1+r.Uint64()>>r.Intn(64)%api.MaxSeq, "")
		v.Seq = min(v.Seq, api.MaxSeq)
		v.Del = r.Intn(2) == 0
		return v
	}
	for range 20000 {
		a, b := some(), some()
		if r.Intn(3) == 0 {
			b.Key = a.Key
		}
		if a.Key == b.Key && a.Seq == b.Seq {
			continue
		}
		if memtable.Less(a, b) != (table.EncodeKey(a) < table.EncodeKey(b)) {
			t.Errorf("%v and %v don't stand as their bytes do", a, b)
		}
	}
}

// P8.1
func TestDecodeKeyRefuses(t *testing.T) {
	for _, v := range refused() {
		if s := place(v); v.Seq < 1<<63 && (v.Key == "" || len(v.Key) > 96 || v.Seq == 0 || v.Seq > api.MaxSeq) {
			checkNoKey(t, s)
		}
	}
	for _, v := range taken() {
		s := place(v)
		for n := range len(s) {
			checkNoKey(t, s[:n])
		}
		for _, tail := range []string{"\x00", "\x01", "\xff", of("\xff", 8), s} {
			checkNoKey(t, s+tail)
		}
	}
	seq := of("\xff", 7) + "\xfd"
	for _, s := range []string{
		"a\x00\x00" + seq, "a\x00\x02" + seq, "a\x00\xfe" + seq, "a\x00\xff" + seq, "a" + seq, "\x00\x01" + seq, "\x00\x01", of("\xff", 300), of("\x00", 300), of("a", 300),
		"a\x00\x01" + of("\x00", 8), "a\x00\x01" + of("\xff", 8), "a\x00\x01" + of("\xff", 7) + "\xfe", // no Seq, or one that is far too great
		"a\x00\x01\xff\xf7\xff\xff\xff\xff\xff\xfd", "a\x00\x01\x7f" + of("\xff", 6) + "\xfd", "a\x00\x01\x80" + of("\x00", 7),
	} {
		checkNoKey(t, s)
	}
}

// P8.1: each byte of a place turned into each other one: a place again, whose own bytes these are, or none.
func TestDecodeKeyOfEveryByte(t *testing.T) {
	for _, v := range []api.Version{gets("a", 1, ""), del("a\x00b", 1<<50), gets("\x00", 77777, "")} {
		s := place(v)
		for i := range len(s) {
			for c := range 256 {
				other := s[:i] + string([]byte{byte(c)}) + s[i+1:]
				w, err := table.DecodeKey(other)
				switch {
				case err == api.OK && place(w) != other:
					t.Errorf("DecodeKey(% x): %v, which is at % x", other, w, place(w))
				case err == api.OK && table.EncodeKey(w) != other:
					t.Errorf("DecodeKey(% x): %v, which may not be", other, w)
				case err != api.OK:
					checkNoKey(t, other)
				}
				if seq := binary.BigEndian.Uint64([]byte(other[len(other)-8:])); i >= len(s)-8 && (err == api.OK) != (^seq/2 >= 1 && ^seq/2 <= api.MaxSeq) {
					t.Errorf("DecodeKey(% x): %d", other, err)
				}
			}
		}
	}
}

// P8.2: the bytes themselves.
func TestEncodeBlock(t *testing.T) {
	first := "\x00\x0ba\x00\x01\xff\xff\xff\xff\xff\xff\xff"
	for _, c := range []struct {
		l    []api.Version
		want string
	}{
		{nil, ""},
		{[]api.Version{gets("a", 1, "")}, first + "\xfd\x00"},
		{[]api.Version{del("a", 1)}, first + "\xfc"},
		{[]api.Version{gets("a", 2, "x"), del("a", 1)}, first + "\xfb\x01x\x0a\x01\xfc"},
		{[]api.Version{del("a", 300), gets("a", 1, "yy")}, "\x00\x0ba\x00\x01\xff\xff\xff\xff\xff\xff\xfd\xa6\x09\x02\xff\xfd\x02yy"},
		{[]api.Version{gets("a", 1, ""), gets("ab", 1, "z")}, first + "\xfd\x00\x01\x0bb\x00\x01\xff\xff\xff\xff\xff\xff\xff\xfd\x01z"},
		{[]api.Version{gets("a", 1, ""), gets("a\x00", 1, "z")}, first + "\xfd\x00\x02\x0b\xff\x00\x01\xff\xff\xff\xff\xff\xff\xff\xfd\x01z"},
		{[]api.Version{gets("a", 1, ""), del("b", 1)}, first + "\xfd\x00\x00\x0bb\x00\x01\xff\xff\xff\xff\xff\xff\xff\xfc"},
	} {
		if got := load(c.l...); got != c.want {
			t.Fatalf("the test's own block: % x, want % x", got, c.want)
		}
		checkBlock(t, c.l, c.want)
	}
}

// P8.2: each sixteenth place is told whole.
func TestBlocksOfManyVersions(t *testing.T) {
	for _, many := range []int{1, 2, 15, 16, 17, 18, 31, 32, 33, 34, 48, 49, 300} {
		l := run(many)
		checkBlock(t, l, load(l...))
	}
	var l []api.Version
	for seq := range uint64(40) { // all of one key
		l = append(l, gets("key", 40-seq, ""))
	}
	s := load(l...)
	if n := strings.Count(s, "\x00\x0dkey\x00\x01"); n != 3 {
		t.Fatalf("the test's own block tells %d places whole, want 3", n)
	}
	checkBlock(t, l, s)
}

// P8.2: what may just be.
func TestBlocksOfWhatMayBe(t *testing.T) {
	for _, v := range taken() {
		checkBlock(t, []api.Version{v}, load(v))
		if first := gets("\x00", 9, "first"); memtable.Less(first, v) {
			checkBlock(t, []api.Version{first, v}, load(first, v))
		}
	}
}

// P8.2: a version that may not be, wherever it stands, is told ahead of the order.
func TestEncodeBlockRefuses(t *testing.T) {
	good, last := gets("\x00", 9, ""), gets(of("\xff", 96), 1, "")
	for _, v := range refused() {
		for _, l := range [][]api.Version{{v}, {v, last}, {good, v}, {good, v, last}, {last, good, v}, {v, last, good}, {v, v}, append(run(40), v)} {
			checkNotEncoded(t, l, api.ErrArg)
		}
	}
}

// P8.2: also two versions of one place are not in order.
func TestEncodeBlockOutOfOrder(t *testing.T) {
	for _, l := range [][]api.Version{
		{gets("b", 1, ""), gets("a", 1, "")}, {gets("a", 1, ""), gets("a", 2, "")}, {gets("a", 1, ""), gets("a", 1, "")}, {gets("a", 1, "x"), gets("a", 1, "y")},
		{del("a", 1), gets("a", 1, "")}, {gets("a", 1, ""), del("a", 1)}, {del("a", 1), del("a", 1)}, {gets("a\x00", 1, ""), gets("a", 2, "")}, {gets("aa", 1, ""), gets("a", 2, "")},
		{gets("\xff", 1, ""), gets("\x00", 1, "")}, {gets("\x80", 1, ""), gets("\x7f", 1, "")}, {gets("a", 3, ""), gets("b", 1, ""), gets("b", 1, "")}, {gets("b", 1, ""), gets("a", 3, ""), gets("c", 2, "")},
	} {
		checkNotEncoded(t, l, api.ErrOrder)
	}
	for i := 1; i < 40; i++ {
		l := run(40)
		l[i-1], l[i] = l[i], l[i-1]
		checkNotEncoded(t, l, api.ErrOrder)
		l = run(40)
		l[i] = l[i-1]
		checkNotEncoded(t, l, api.ErrOrder)
	}
}

// P8.2: what is cut off anywhere but behind a version, or has anything behind it, is no block.
func TestDecodeBlockCutOff(t *testing.T) {
	l := run(20)
	s := load(l...)
	ends := []int{}
	for n := range l {
		ends = append(ends, len(load(l[:n]...)))
	}
	for n := range len(s) {
		if i := slices.Index(ends, n); i >= 0 {
			checkBlock(t, l[:i], s[:n])
		} else {
			checkNoBlock(t, s[:n])
		}
	}
	for _, tail := range []string{"\x00", "\x01", "\xff", "\x00\x00", "\x00\x01", s, entry(0, gets("\x00", 1, ""))} {
		checkNoBlock(t, s+tail)
	}
}

// P8.2: there is one way only to tell a version.
func TestDecodeBlockRefuses(t *testing.T) {
	a, b := gets("ab", 5, "x"), gets("ac", 5, "y")
	first := load(a)
	checkBlock(t, []api.Version{a, b}, first+entry(1, b))
	checkNoBlock(t, first+entry(0, b)) // less than they have alike
	for n := range len(place(b)) {
		if n != 1 {
			checkNoBlock(t, first+entry(n, b))
		}
	}
	rest := place(a)[1:]
	checkNoBlock(t, codec.PutUint(1)+codec.PutText(rest)+"\x01x") // there is nothing ahead
	for _, n := range []uint64{12, 13, 14, 200, 1 << 31, 1 << 32, 1<<32 + 1, 1 << 63, math.MaxUint64} {
		checkNoBlock(t, first+codec.PutUint(n)+codec.PutText("c")+"\x00")
		checkNoBlock(t, first+codec.PutUint(n)+codec.PutText("")+"\x00")
	}
	checkNoBlock(t, "\x80\x00"+first[1:])                                                                   // longer than it need be
	checkNoBlock(t, "\x00\x8c\x00"+place(a)+"\x01x")                                                        // likewise
	checkNoBlock(t, "\x00"+codec.PutText(place(a))+"\x81\x00x")                                             // likewise
	checkNoBlock(t, "\x00"+codec.PutUint(math.MaxUint64)+place(a)+"\x01x")                                  // a text without an end
	checkNoBlock(t, "\x00"+codec.PutText(place(a))+codec.PutUint(math.MaxUint64)+"x")                       // likewise
	checkNoBlock(t, "\x00"+codec.PutText(place(a))+codec.PutText(of("v", 16385)))                           // a value that is too long
	checkNoBlock(t, "\x00"+codec.PutText(place(del("a", 1)))+"\x00")                                        // a Del has no value
	checkNoBlock(t, "\x00"+codec.PutText(place(a)+"\x00")+"\x01x")                                          // no place
	checkNoBlock(t, "\x00"+codec.PutText("")+"\x00")                                                        // likewise
	checkNoBlock(t, first+codec.PutUint(uint64(len(place(a))))+codec.PutText("")+"\x01x")                   // the same place once more
	checkNoBlock(t, load(gets("a", 1, "x"))+codec.PutUint(10)+codec.PutText("\xfc"))                        // likewise, as a Del
	checkNoBlock(t, load(del("a", 1))+codec.PutUint(10)+codec.PutText("\xfd")+"\x00")                       // likewise, as none
	checkNoBlock(t, load(gets("a", 1, "x"))+codec.PutUint(10)+codec.PutText("\xfb")+codec.PutText("newer")) // not in order
	checkNoBlock(t, of("\x00", 1<<16))
	checkNoBlock(t, of("\x01", 1<<16))
	checkNoBlock(t, of("\xff", 1<<16))
}

// P8.2: the first and each sixteenth place is told whole, no other one.
func TestDecodeBlockOfOtherGroups(t *testing.T) {
	l := run(50)
	for i, v := range l {
		s := load(l[:i]...)
		whole, part := entry(0, v), ""
		if i > 0 {
			part = entry(common(place(v), place(l[i-1])), v)
		}
		if i%16 == 0 {
			checkBlock(t, l[:i+1], s+whole)
		} else {
			checkBlock(t, l[:i+1], s+part)
			whole, part = part, whole
		}
		if part != "" && part != whole {
			checkNoBlock(t, s+part)
		}
	}
}

// P8.2: whatever bytes: those of the versions that are told, or none's.
func TestDecodeBlockOfAnyBytes(t *testing.T) {
	r := rand.New(rand.NewSource(2))
	s, whole := load(run(36)...), 0
	for range 60000 {
		b := []byte(s[:len(load(run(r.Intn(37))...))])
		for range r.Intn(3) {
			if len(b) > 0 {
				b[r.Intn(len(b))] = byte(r.Uint32() >> r.Intn(32))
			}
		}
		l, err := table.DecodeBlock(string(b))
		if err != api.OK {
			checkNoBlock(t, string(b))
			continue
		}
		whole++
		if got, err := table.EncodeBlock(l); got != string(b) || err != api.OK {
			t.Errorf("DecodeBlock(% x): %v, which are told otherwise", b, l)
		}
	}
	if whole < 1000 {
		t.Errorf("only %d blocks were whole", whole)
	}
}

// R3: lists are new memory.
func TestBlocksAreNewMemory(t *testing.T) {
	l := run(20)
	s, _ := table.EncodeBlock(l)
	if !slices.Equal(l, run(20)) {
		t.Error("EncodeBlock has written into its versions")
	}
	held := lent(s)
	one, _ := table.DecodeBlock(held)
	other, _ := table.DecodeBlock(held)
	v, _ := table.DecodeKey(held[2 : 2+len(place(l[0]))])
	spoil(held)
	checkList(t, "DecodeBlock of bytes that are no more", one, l)
	checkVersion(t, "DecodeKey of bytes that are no more", v, gets(l[0].Key, l[0].Seq, ""))
	for _, v := range one {
		spoil(v.Key)
		spoil(v.Value)
	}
	clear(one[:cap(one)])
	checkList(t, "a list beside one that is spoiled", other, l)
}
