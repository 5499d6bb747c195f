package table_test

import (
	"encoding/binary"
	"fmt"
	"math"
	"math/rand"
	"slices"
	"strings"
	"testing"
	"unsafe"

	"tapestry/api"
	"tapestry/bloom"
	"tapestry/codec"
	"tapestry/frame"
	"tapestry/memtable"
	"tapestry/table"
)

// span is a block's in an index: with the bytes of its last version's place.
type span struct {
	at, size, count uint64
	place           string
}

// parts are what a table is put together of, as the chapter says it; each may be spoiled ahead of that.
type parts struct {
	data                              []string // frames of blocks
	spans                             []span
	blocks                            uint64 // as the index says
	filter                            string
	versions                          uint64 // as the foot says
	least, greatest                   string
	filterKind, indexKind, footKind   uint8
	filterShift, indexShift           int    // how far from where they are the foot says them to begin
	footShift                         int    // likewise, the four bytes
	filterEnd, indexEnd, footEnd, end string // stands behind each frame, and behind all
	indexTail, footTail               string // stands behind what they bear
}

// framed is a frame's bytes.
func framed(kind uint8, load string) string {
	s, err := frame.Put(api.Frame{Kind: kind, Load: load})
	if err != api.OK {
		panic(err)
	}
	return s
}

// keysOf are the keys of versions in order, each once.
func keysOf(l []api.Version) []string {
	var keys []string
	for _, v := range l {
		if len(keys) == 0 || keys[len(keys)-1] != v.Key {
			keys = append(keys, v.Key)
		}
	}
	return keys
}

// split are the blocks of versions.
func split(block int, l []api.Version) [][]api.Version {
	var blocks [][]api.Version
	for len(l) > 0 {
		n, size := 0, 0
		for n < len(l) && size < block {
			take := 0
			if n%16 != 0 {
				take = common(place(l[n]), place(l[n-1]))
			}
			size += len(entry(take, l[n]))
			n++
		}
		blocks, l = append(blocks, l[:n]), l[n:]
	}
	return blocks
}

// partsOf are those of blocks, whatever versions stand in them.
func partsOf(bits int, blocks ...[]api.Version) *parts {
	p := &parts{filterKind: api.FrameFilter, indexKind: api.FrameIndex, footKind: api.FrameFoot, blocks: uint64(len(blocks))}
	at, all := 0, slices.Concat(blocks...)
	for _, l := range blocks {
		f := framed(api.FrameData, load(l...))
		p.data = append(p.data, f)
		p.spans = append(p.spans, span{uint64(at), uint64(len(f)), uint64(len(l)), place(l[len(l)-1])})
		at += len(f)
	}
	p.filter = bloom.Build(bits, keysOf(all)...)
	p.versions, p.least, p.greatest = uint64(len(all)), all[0].Key, all[len(all)-1].Key
	return p
}

// index is what the index bears.
func (p *parts) index() string {
	var s strings.Builder
	s.WriteString(codec.PutUint(p.blocks))
	for _, x := range p.spans {
		s.WriteString(codec.PutUint(x.at) + codec.PutUint(x.size) + codec.PutUint(x.count) + codec.PutText(x.place))
	}
	return s.String() + p.indexTail
}

// bytes are the table's.
func (p *parts) bytes() string {
	s := strings.Join(p.data, "")
	filterAt := uint64(len(s) + p.filterShift)
	s += framed(p.filterKind, p.filter) + p.filterEnd
	indexAt := uint64(len(s) + p.indexShift)
	s += framed(p.indexKind, p.index()) + p.indexEnd
	footAt := uint32(len(s) + p.footShift)
	foot := codec.PutUint(filterAt) + codec.PutUint(indexAt) + codec.PutUint(p.versions) + codec.PutText(p.least) + codec.PutText(p.greatest) + p.footTail
	s += framed(p.footKind, foot) + p.footEnd
	return s + string(binary.LittleEndian.AppendUint32(nil, footAt)) + p.end
}

// three are blocks of a few versions, of keys that are in two of them, too.
func three() [][]api.Version {
	return [][]api.Version{
		{gets("b", 9, "nine"), gets("b", 7, ""), del("c", 3)},
		{gets("c", 1, "one"), gets("e", 12, "twelve"), gets("e", 10, "ten")},
		{gets("e", 4, of("v", 60)), gets("g\x00", 5, "five")},
	}
}

// spoiled is three's table, in which something was changed.
func spoiled(change func(p *parts)) string {
	p := partsOf(10, three()...)
	change(p)
	return p.bytes()
}

func build(t *testing.T, block, bits int, l []api.Version) string {
	t.Helper()
	s, err := table.Build(block, bits, l)
	if err != api.OK {
		t.Fatalf("Build(%d, %d, %d versions): %d", block, bits, len(l), err)
	}
	return s
}

func open(t *testing.T, s string) *table.Table {
	t.Helper()
	x, err := table.Open(s)
	if err != api.OK || x == nil {
		t.Fatalf("Open(%d bytes): %d", len(s), err)
	}
	return x
}

func checkNotBuilt(t *testing.T, block, bits int, l []api.Version, want api.Errno) {
	t.Helper()
	if s, err := table.Build(block, bits, l); s != "" || err != want {
		t.Errorf("Build(%d, %d, %d versions): %d bytes, %d, want none, %d", block, bits, len(l), len(s), err, want)
	}
}

func checkBuilt(t *testing.T, block, bits int, l []api.Version) {
	t.Helper()
	want := partsOf(bits, split(block, l)...).bytes()
	if s, err := table.Build(block, bits, l); s != want || err != api.OK {
		t.Errorf("Build(%d, %d, %d versions): %d bytes, %d, want %d others", block, bits, len(l), len(s), err, len(want))
	}
}

func checkNoTable(t *testing.T, what, s string) {
	t.Helper()
	if x, err := table.Open(s); x != nil || err != api.ErrForm {
		t.Errorf("Open(%s): %d, want 3", what, err)
	}
}

func checkGet(t *testing.T, x *table.Table, key string, seq uint64, want api.Version, ok bool, err api.Errno) {
	t.Helper()
	if v, k, e := x.Get(key, seq); v != want || k != ok || e != err {
		t.Errorf("Get(%q, %d): %v %t %d, want %v %t %d", short(key), seq, brief(v), k, e, brief(want), ok, err)
	}
}

// newest is what Get is meant to find.
func newest(l []api.Version, key string, seq uint64) (api.Version, bool) {
	for _, v := range l {
		if v.Key == key && v.Seq <= seq {
			return v, true
		}
	}
	return api.Version{}, false
}

// from are the versions of keys from one on.
func from(l []api.Version, key string) []api.Version {
	var out []api.Version
	for _, v := range l {
		if v.Key >= key {
			out = append(out, v)
		}
	}
	return out
}

// looks are keys beside those of versions, and such as no table has.
func looks(l []api.Version) []string {
	looks := []string{"", "\x00", "a", "d", "f", "z", "\xff", of("\xff", 96), of("\xff", 97), of("k", 1000)}
	for _, key := range keysOf(l) {
		looks = append(looks, key, key+"\x00", key[:len(key)-1], key+"\xff")
	}
	return looks
}

// checkSeen asks a table that is sound for all that it tells.
func checkSeen(t *testing.T, x *table.Table, l []api.Version) {
	t.Helper()
	checkErr(t, "Check", x.Check(), api.OK)
	checkList(t, "From", slices.Collect(x.From("")), l)
	least, greatest, n := x.Bounds()
	if least != l[0].Key || greatest != l[len(l)-1].Key || n != len(l) {
		t.Errorf("Bounds: %q %q %d, want %q %q %d", least, greatest, n, l[0].Key, l[len(l)-1].Key, len(l))
	}
	for _, key := range looks(l) {
		checkList(t, "From a key", slices.Collect(x.From(key)), from(l, key))
		for _, seq := range []uint64{0, 1, 500, 1000, api.MaxSeq, api.MaxSeq + 1, math.MaxUint64} {
			v, ok := newest(l, key, seq)
			checkGet(t, x, key, seq, v, ok, api.OK)
		}
	}
	for _, v := range l {
		for _, seq := range []uint64{v.Seq - 1, v.Seq, v.Seq + 1} {
			w, ok := newest(l, v.Key, seq)
			checkGet(t, x, v.Key, seq, w, ok, api.OK)
		}
	}
}

// checkSpans asks for the spans of blocks that lie one behind the other.
func checkSpans(t *testing.T, x *table.Table, blocks [][]api.Version) {
	t.Helper()
	var want []api.Span
	at := 0
	for _, l := range blocks {
		size, last := len(framed(api.FrameData, load(l...))), l[len(l)-1]
		want = append(want, api.Span{At: at, Size: size, Count: len(l), Key: last.Key, Seq: last.Seq})
		at += size
	}
	if got := x.Spans(); !slices.Equal(got, want) {
		t.Errorf("Spans: %v, want %v", got, want)
	}
}

// P8.3: the bytes themselves.
func TestBuildBytes(t *testing.T) {
	s := build(t, 64, 0, []api.Version{gets("a", 2, "x"), del("a", 1)})
	want := framed(api.FrameData, "\x00\x0ba\x00\x01\xff\xff\xff\xff\xff\xff\xff\xfb\x01x\x0a\x01\xfc") +
		framed(api.FrameFilter, "") +
		framed(api.FrameIndex, "\x01\x00\x18\x02\x0ba\x00\x01\xff\xff\xff\xff\xff\xff\xff\xfc") +
		framed(api.FrameFoot, "\x18\x1e\x02\x01a\x01a") + "\x34\x00\x00\x00"
	if s != want {
		t.Errorf("Build: % x, want % x", s, want)
	}
}

// P8.3
func TestBuild(t *testing.T) {
	for _, many := range []int{1, 2, 3, 15, 16, 17, 40, 700} {
		for _, block := range []int{64, 65, 100, 256, 1000, 4095, 4096} {
			for _, bits := range []int{0, 1, 10, 19, 20} {
				checkBuilt(t, block, bits, run(many))
			}
		}
	}
	for _, v := range taken() {
		checkBuilt(t, 64, 10, []api.Version{v})
		checkBuilt(t, 4096, 0, []api.Version{v})
	}
	big := []api.Version{gets("a", 3, of("x", 16384)), gets("a", 1, ""), gets("b", 1, of("y", 16384)), del(of("z", 96), 9), gets(of("z", 96), 8, of("z", 5000))}
	checkBuilt(t, 64, 10, big)
	checkBuilt(t, 4096, 10, big)
}

// P8.3: a block ends as soon as its bytes are as many as asked for, or more.
func TestBuildEndsBlocks(t *testing.T) {
	for _, c := range []struct{ first, second int }{{64, 1}, {65, 1}, {63, 2}} {
		l := []api.Version{gets("a", 1, ""), gets("b", 1, "")}
		l[0].Value = of("v", c.first-len(load(l[0])))
		if len(load(l[0])) != c.first {
			t.Fatalf("the first version has %d bytes, want %d", len(load(l[0])), c.first)
		}
		spans := open(t, build(t, 64, 10, l)).Spans()
		if spans[0].Count != c.second {
			t.Errorf("Build(64, ..) with %d bytes: %d versions in the first block, want %d", c.first, spans[0].Count, c.second)
		}
		checkBuilt(t, 64, 10, l)
	}
}

// P8.3
func TestBuildRefusesArguments(t *testing.T) {
	good, bad := run(5), []api.Version{gets("a", 1, ""), {}}
	unordered := []api.Version{gets("b", 1, ""), gets("a", 1, "")}
	for _, block := range []int{math.MinInt, -64, -1, 0, 1, 63, 4097, 8192, 1<<32 + 64, math.MaxInt} {
		for _, l := range [][]api.Version{good, bad, unordered, nil} {
			checkNotBuilt(t, block, 10, l, api.ErrArg)
		}
	}
	for _, bits := range []int{math.MinInt, -20, -1, 21, 30, 256, 1 << 32, math.MaxInt} {
		for _, l := range [][]api.Version{good, bad, unordered, nil} {
			checkNotBuilt(t, 64, bits, l, api.ErrArg)
		}
	}
	checkNotBuilt(t, 64, 10, nil, api.ErrArg)
	checkNotBuilt(t, 64, 10, []api.Version{}, api.ErrArg)
	for _, v := range refused() {
		for _, l := range [][]api.Version{{v}, append(run(40), v), {v, gets("\x00", 1, "")}, {gets("\xff", 1, ""), v}, append(slices.Clone(unordered), v)} {
			checkNotBuilt(t, 64, 10, l, api.ErrArg)
		}
	}
	checkNotBuilt(t, 64, 10, unordered, api.ErrOrder)
	for i := 1; i < 40; i++ {
		l := run(40)
		l[i] = l[i-1]
		checkNotBuilt(t, 4096, 20, l, api.ErrOrder)
		l = run(40)
		l[i-1], l[i] = l[i], l[i-1]
		checkNotBuilt(t, 64, 0, l, api.ErrOrder)
	}
}

// P8.3: a filter of as many bytes as a frame may bear, and of one more.
func TestBuildWithTooGreatAFilter(t *testing.T) {
	var l []api.Version
	for i := range 104858 { // 20 bits each: 2097160, one more than 262143 bytes have
		l = append(l, gets(string(binary.BigEndian.AppendUint32(nil, uint32(i))), 1, ""))
	}
	s := build(t, 4096, 20, l[:104857])
	x := open(t, s)
	checkGet(t, x, l[104856].Key, 1, l[104856], true, api.OK)
	checkNotBuilt(t, 4096, 20, l, api.ErrFull)
	build(t, 4096, 19, l)
	l = append([]api.Version{gets(l[0].Key, 2, "")}, l[:104857]...) // a key that stands twice counts once
	build(t, 4096, 20, l)
}

// P8.3: an index of as many bytes as a frame may bear, and of one more.
func TestBuildWithTooGreatAnIndex(t *testing.T) {
	var l []api.Version
	size, ats := 0, 0
	add := func(keyBytes int) {
		v := gets(fmt.Sprintf("%06d", len(l))+of("k", keyBytes-6), 1, of("v", 64)) // a block each
		f := len(framed(api.FrameData, load(v)))
		l = append(l, v)
		size += len(codec.PutUint(uint64(ats))) + len(codec.PutUint(uint64(f))) + 1 + len(codec.PutText(place(v)))
		ats += f
	}
	room := func() int { return api.MaxFrame - len(codec.PutUint(uint64(len(l)))) - size }
	for room() > 500 {
		add(96)
	}
	for room() > 100 {
		add(40)
	}
	for keyBytes := 6; keyBytes < 96; keyBytes++ {
		before, beforeSize, beforeAt := len(l), size, ats
		add(keyBytes)
		if room() == 0 {
			x := open(t, build(t, 64, 10, l))
			if got := len(x.Spans()); got != len(l) {
				t.Errorf("Spans: %d, want %d", got, len(l))
			}
			checkErr(t, "Check", x.Check(), api.OK)
			l[before].Key += "k"
			checkNotBuilt(t, 64, 10, l, api.ErrFull)
			build(t, 4096, 10, l)
			return
		}
		l, size, ats = l[:before], beforeSize, beforeAt
	}
	t.Error("no index had just so many bytes")
}

// P8.3: a table of 2^24 bytes, and of one more.
func TestBuildOfTooMuch(t *testing.T) {
	var l []api.Version
	for i := range 1020 {
		l = append(l, gets(fmt.Sprintf("key %04d", i), 1, of("v", 16384)))
	}
	left := 1<<24 - len(build(t, 4096, 10, l))
	if left < 1 || left > 40000 {
		t.Fatalf("%d bytes are left", left)
	}
	for left > 16500 {
		l = append(l, gets(fmt.Sprintf("key %04d", len(l)), 1, of("v", 16384)))
		left = 1<<24 - len(build(t, 4096, 10, l))
	}
	l = append(l, gets(fmt.Sprintf("key %04d", len(l)), 1, of("v", left-300)))
	last := &l[len(l)-1]
	last.Value += of("v", 1<<24-len(build(t, 4096, 10, l)))
	s := build(t, 4096, 10, l)
	if len(s) != 1<<24 {
		t.Fatalf("Build: %d bytes, want %d", len(s), 1<<24)
	}
	checkErr(t, "Check", open(t, s).Check(), api.OK)
	last.Value += "v"
	checkNotBuilt(t, 4096, 10, l, api.ErrFull)
}

// P8.4: what was put together as the chapter says it is a table, and may be spoiled where Open doesn't look.
func TestOpen(t *testing.T) {
	for what, s := range map[string]string{
		"a table":                   spoiled(func(p *parts) {}),
		"data blocks that are none": spoiled(func(p *parts) { p.data[0] = of("x", len(p.data[0])) }),
		"blocks in another order": spoiled(func(p *parts) {
			p.spans[0].size, p.spans[1].at, p.spans[1].size = 1, 1, p.spans[1].at+p.spans[1].size-1
		}),
		"other counts":                     spoiled(func(p *parts) { p.spans[0].count, p.spans[1].count = 1, 5 }),
		"no filter":                        spoiled(func(p *parts) { p.filter = "" }),
		"another filter":                   spoiled(func(p *parts) { p.filter = "\x1e" + of("\x00", 8) }),
		"a lesser least key":               spoiled(func(p *parts) { p.least = "a" }),
		"a least key that is the greatest": spoiled(func(p *parts) { p.least = p.greatest }),
		"a greatest count":                 spoiled(func(p *parts) { p.versions, p.spans[1].count = 1<<62, 1<<62-5 }),
		"places of Dels":                   spoiled(func(p *parts) { p.spans[0].place = place(gets("c", 3, "")) }),
	} {
		if x, err := table.Open(s); x == nil || err != api.OK {
			t.Errorf("Open of %s: %d", what, err)
		}
	}
}

// P8.4
func TestOpenRefusesFrames(t *testing.T) {
	other := framed(api.FrameData, "x")
	for what, s := range map[string]string{
		"nothing":                       "",
		"three bytes":                   "\x00\x00\x00",
		"four bytes":                    "\x00\x00\x00\x00",
		"five bytes":                    "\x00\x00\x00\x00\x00",
		"great numbers":                 of("\xff", 64),
		"something behind":              spoiled(func(p *parts) { p.end = "\x00" }),
		"a frame behind":                spoiled(func(p *parts) { p.end = other }),
		"another table behind":          spoiled(func(p *parts) { p.end = spoiled(func(*parts) {}) }),
		"a foot's place too low":        spoiled(func(p *parts) { p.footShift = -1 }),
		"a foot's place too high":       spoiled(func(p *parts) { p.footShift = 1 }),
		"a foot's place far away":       spoiled(func(p *parts) { p.footShift = 1 << 30 }),
		"something behind the foot":     spoiled(func(p *parts) { p.footEnd = "\x00" }),
		"a frame behind the foot":       spoiled(func(p *parts) { p.footEnd = other }),
		"a foot of another kind":        spoiled(func(p *parts) { p.footKind = api.FrameEdit }),
		"a filter's place too low":      spoiled(func(p *parts) { p.filterShift = -1 }),
		"a filter's place too high":     spoiled(func(p *parts) { p.filterShift = 1 }),
		"a filter's place far away":     spoiled(func(p *parts) { p.filterShift = math.MaxInt64 - 1000 }),
		"a filter's place of 64 bits":   spoiled(func(p *parts) { p.filterShift = -1000 }),
		"something behind the filter":   spoiled(func(p *parts) { p.filterEnd = "\x00" }),
		"a frame behind the filter":     spoiled(func(p *parts) { p.filterEnd = other }),
		"a filter of another kind":      spoiled(func(p *parts) { p.filterKind = api.FrameIndex }),
		"an index's place too low":      spoiled(func(p *parts) { p.indexShift = -1 }),
		"an index's place too high":     spoiled(func(p *parts) { p.indexShift = 1 }),
		"an index's place ahead of all": spoiled(func(p *parts) { p.indexShift = -len(strings.Join(p.data, "")) }),
		"an index's place far away":     spoiled(func(p *parts) { p.indexShift = math.MaxInt64 - 1000 }),
		"an index's place of 64 bits":   spoiled(func(p *parts) { p.indexShift = -1000 }),
		"something behind the index":    spoiled(func(p *parts) { p.indexEnd = "\x00" }),
		"a frame behind the index":      spoiled(func(p *parts) { p.indexEnd = other }),
		"an index of another kind":      spoiled(func(p *parts) { p.indexKind = api.FrameFilter }),
		"a table that begins too late":  spoiled(func(p *parts) {})[1:],
	} {
		checkNoTable(t, what, s)
	}
}

// P8.4
func TestOpenRefusesLoads(t *testing.T) {
	for what, change := range map[string]func(p *parts){
		"a filter that is none":             func(p *parts) { p.filter = "\x00" + of("\xff", 8) },
		"a filter with too many looks":      func(p *parts) { p.filter = "\x1f" + of("\xff", 8) },
		"a filter that is too short":        func(p *parts) { p.filter = "\x01" + of("\xff", 7) },
		"something behind the index's load": func(p *parts) { p.indexTail = "\x00" },
		"something behind the foot's load":  func(p *parts) { p.footTail = "\x00" },
		"no blocks":                         func(p *parts) { p.blocks, p.spans, p.versions = 0, nil, 0 },
		"no blocks, and none in data":       func(p *parts) { p.data, p.blocks, p.spans, p.versions = nil, 0, nil, 0 },
		"fewer blocks than there are":       func(p *parts) { p.blocks = 2 },
		"more blocks than there are":        func(p *parts) { p.blocks = 4 },
		"far more blocks":                   func(p *parts) { p.blocks = math.MaxUint64 },
		"blocks as bytes say":               func(p *parts) { p.blocks = 1<<32 + 3 },
		"a block less":                      func(p *parts) { p.blocks, p.spans, p.versions, p.greatest = 2, p.spans[:2], 6, "e" },
		"a first block less":                func(p *parts) { p.blocks, p.spans, p.versions = 2, p.spans[1:], 5 },
		"a first block that begins at 1":    func(p *parts) { p.spans[0].at, p.spans[0].size = 1, p.spans[0].size-1 },
		"a block that begins too early":     func(p *parts) { p.spans[1].at-- },
		"a block that begins too late":      func(p *parts) { p.spans[1].at++ },
		"blocks with a gap":                 func(p *parts) { p.spans[1].at++; p.spans[1].size-- },
		"blocks that overlap":               func(p *parts) { p.spans[0].size++ },
		"a last block that ends too early":  func(p *parts) { p.spans[2].size-- },
		"a last block that ends too late":   func(p *parts) { p.spans[2].size++ },
		"a block without bytes":             func(p *parts) { p.spans[1].at, p.spans[1].size, p.spans[0].size = p.spans[2].at, 0, p.spans[2].at },
		"a first block without bytes":       func(p *parts) { p.spans[0].size, p.spans[1].at, p.spans[1].size = 0, 0, p.spans[2].at },
		"a last block without bytes":        func(p *parts) { n := p.spans[2].size; p.spans[1].size += n; p.spans[2].at += n; p.spans[2].size = 0 },
		"sizes that go round": func(p *parts) {
			p.spans[0].size, p.spans[1].at, p.spans[1].size = 1<<63, 1<<63, 1<<63+p.spans[2].at
		},
		"a size that goes round":                  func(p *parts) { p.spans[2].size += 1 << 63 },
		"a block without versions":                func(p *parts) { p.spans[0].count, p.spans[1].count = 0, 6 },
		"a last block without versions":           func(p *parts) { p.spans[2].count, p.spans[1].count = 0, 5 },
		"a version too few":                       func(p *parts) { p.versions-- },
		"a version too many":                      func(p *parts) { p.versions++ },
		"no versions":                             func(p *parts) { p.versions = 0 },
		"counts that go round":                    func(p *parts) { p.spans[0].count, p.spans[1].count = 1<<63, 1<<63+6 },
		"counts that go round once":               func(p *parts) { p.spans[0].count, p.spans[1].count = math.MaxUint64, 7 },
		"counts that no number is":                func(p *parts) { p.versions, p.spans[1].count = 1<<63+5, 1<<63 },
		"a count as bytes say":                    func(p *parts) { p.versions += 1 << 32 },
		"no place":                                func(p *parts) { p.spans[0].place = "" },
		"a place that is none":                    func(p *parts) { p.spans[0].place += "\x00" },
		"a place without a key":                   func(p *parts) { p.spans[0].place = place(gets("", 1, "")) },
		"a place with too long a key":             func(p *parts) { p.spans[0].place = place(gets("c"+of("c", 96), 1, "")) },
		"a place without a number":                func(p *parts) { p.spans[0].place = place(gets("c", 0, "")) },
		"a place with too great a number":         func(p *parts) { p.spans[0].place = place(gets("c", 1<<50+1, "")) },
		"a place that stands twice":               func(p *parts) { p.spans[1].place = p.spans[0].place },
		"a place that stands twice, as a put":     func(p *parts) { p.spans[0].place, p.spans[1].place = place(del("c", 3)), place(gets("c", 3, "")) },
		"places not in order":                     func(p *parts) { p.spans[0].place, p.spans[1].place = p.spans[1].place, p.spans[0].place },
		"places of a key not in order":            func(p *parts) { p.spans[0].place = place(gets("e", 9, "")) },
		"a last place not in order":               func(p *parts) { p.spans[2].place, p.greatest = place(gets("d", 1, "")), "d" },
		"a greatest key that is too great":        func(p *parts) { p.greatest = "g\x00\x00" },
		"a greatest key that is too little":       func(p *parts) { p.greatest = "g" },
		"no greatest key":                         func(p *parts) { p.greatest = "" },
		"no keys":                                 func(p *parts) { p.least, p.greatest = "", "" },
		"a least key above the greatest":          func(p *parts) { p.least = "g\x00\x00" },
		"a least key far above it":                func(p *parts) { p.least = "h" },
		"a least key above the last place's, too": func(p *parts) { p.least, p.greatest = "h", "h" },
		"a least key that is too long":            func(p *parts) { p.least = of("a", 97) },
	} {
		checkNoTable(t, what, spoiled(change))
	}
}

// P8.4, P8.8: each bit of a table turned is seen, those of the data blocks by Check alone.
func TestEachBitIsSeen(t *testing.T) {
	p := partsOf(10, three()...)
	s, data := p.bytes(), len(strings.Join(p.data, ""))
	all := slices.Concat(three()...)
	for i := range 8 * len(s) {
		b := []byte(s)
		b[i/8] ^= 1 << (i % 8)
		if i/8 >= data {
			checkNoTable(t, fmt.Sprintf("the bit %d turned", i), string(b))
			continue
		}
		x := open(t, string(b))
		checkErr(t, fmt.Sprintf("Check with the bit %d turned", i), x.Check(), api.ErrForm)
		got := slices.Collect(x.From(""))
		checkList(t, fmt.Sprintf("From with the bit %d turned", i), got, all[:len(got)])
	}
	for n := range len(s) {
		checkNoTable(t, fmt.Sprintf("%d bytes", n), s[:n])
	}
}

// P8.4: the foot's place alone is told, as it is.
func TestOpenOfEachFootPlace(t *testing.T) {
	s := spoiled(func(*parts) {})
	body, right := s[:len(s)-4], binary.LittleEndian.Uint32([]byte(s[len(s)-4:]))
	for at := range uint32(len(s) + 10) {
		for _, high := range []uint32{0, 1 << 16, 1 << 24, 1 << 31} {
			if place := at | high; place != right {
				checkNoTable(t, fmt.Sprintf("the foot's place %d", place), body+string(binary.LittleEndian.AppendUint32(nil, place)))
			}
		}
	}
	open(t, body+string(binary.LittleEndian.AppendUint32(nil, right)))
}

// P8.4: whatever bytes.
func TestOpenOfAnyBytes(t *testing.T) {
	r := rand.New(rand.NewSource(4))
	for range 20000 {
		b := make([]byte, r.Intn(60))
		for i := range b {
			b[i] = byte(r.Uint32() >> r.Intn(32))
		}
		checkNoTable(t, "any bytes", string(b))
	}
}

// P8.5
func TestSpansAndBounds(t *testing.T) {
	x := open(t, build(t, 64, 10, []api.Version{gets("a", 1, "v")}))
	if l := x.Spans(); len(l) != 1 || l[0].At != 0 || l[0].Count != 1 {
		t.Errorf("Spans: %v", l)
	}
	for _, many := range []int{1, 2, 17, 300} {
		for _, block := range []int{64, 200, 4096} {
			l := run(many)
			x := open(t, build(t, block, 10, l))
			checkSpans(t, x, split(block, l))
			least, greatest, n := x.Bounds()
			if least != l[0].Key || greatest != l[many-1].Key || n != many {
				t.Errorf("Bounds: %q %q %d", least, greatest, n)
			}
		}
	}
	x = open(t, spoiled(func(p *parts) { // as the index and the foot say, whatever the data are
		p.least, p.versions, p.spans[1].count = "a", 1000, 995
		p.data[1] = of("x", len(p.data[1]))
	}))
	least, greatest, n := x.Bounds()
	if least != "a" || greatest != "g\x00" || n != 1000 || x.Spans()[1].Count != 995 {
		t.Errorf("Bounds: %q %q %d, %v", least, greatest, n, x.Spans())
	}
}

// unsound are ways in which three's second block may be spoiled, so that it is no longer sound.
func unsound() map[string]func(p *parts) {
	set := func(p *parts, f string) { // in its place, whatever its size
		grown := uint64(len(f)) - p.spans[1].size
		p.data[1], p.spans[1].size, p.spans[2].at = f, p.spans[1].size+grown, p.spans[2].at+grown
	}
	l := three()[1]
	return map[string]func(p *parts){
		"no frame":                  func(p *parts) { set(p, of("x", 40)) },
		"one byte":                  func(p *parts) { set(p, "x") },
		"a frame that is cut off":   func(p *parts) { set(p, p.data[1][:len(p.data[1])-1]) },
		"something behind":          func(p *parts) { set(p, p.data[1]+"\x00") },
		"a frame behind":            func(p *parts) { set(p, p.data[1]+framed(api.FrameData, "")) },
		"a frame of another kind":   func(p *parts) { set(p, framed(api.FrameIndex, load(l...))) },
		"an empty block":            func(p *parts) { set(p, framed(api.FrameData, "")) },
		"a load that is none":       func(p *parts) { set(p, framed(api.FrameData, load(l...)+"\x00")) },
		"versions not in order":     func(p *parts) { set(p, framed(api.FrameData, load(l[1], l[0], l[2]))) },
		"a version less":            func(p *parts) { set(p, framed(api.FrameData, load(l[1:]...))) },
		"a version more":            func(p *parts) { set(p, framed(api.FrameData, load(append([]api.Version{gets("c", 2, "")}, l...)...))) },
		"another last version":      func(p *parts) { set(p, framed(api.FrameData, load(l[0], l[1], gets("e", 9, "ten")))) },
		"a last key that is less":   func(p *parts) { set(p, framed(api.FrameData, load(l[0], gets("d", 12, ""), gets("d", 10, "ten")))) },
		"another count":             func(p *parts) { p.spans[1].count, p.spans[0].count = 2, 4 },
		"a count that is too great": func(p *parts) { p.spans[1].count, p.versions = 1<<40, 1<<40+5 },
		"another last place":        func(p *parts) { p.spans[1].place = place(gets("e", 9, "")) },
		"another last key":          func(p *parts) { p.spans[1].place = place(gets("e\x00", 10, "")) },
	}
}

// P8.6: a look reads the one block that it needs.
func TestGetReadsOneBlock(t *testing.T) {
	for what, change := range unsound() {
		x := open(t, spoiled(func(p *parts) { change(p); p.filter = "" }))
		if what != "another count" { // that one is the first block's, too
			checkGet(t, x, "b", 9, gets("b", 9, "nine"), true, api.OK)
			checkGet(t, x, "b", 8, gets("b", 7, ""), true, api.OK)
			checkGet(t, x, "c", 3, del("c", 3), true, api.OK)
			checkGet(t, x, "a", 3, api.Version{}, false, api.OK)
			checkGet(t, x, "b", 6, api.Version{}, false, api.OK)
		}
		checkGet(t, x, "c", 2, api.Version{}, false, api.ErrForm)
		checkGet(t, x, "c", 0, api.Version{}, false, api.ErrForm)
		checkGet(t, x, "d", 1, api.Version{}, false, api.ErrForm)
		checkGet(t, x, "e", math.MaxUint64, api.Version{}, false, api.ErrForm)
		checkGet(t, x, "e", 11, api.Version{}, false, api.ErrForm)
		checkGet(t, x, "e", 10, api.Version{}, false, api.ErrForm)
		checkGet(t, x, "g\x00", 5, gets("g\x00", 5, "five"), true, api.OK)
		checkGet(t, x, "g\x00", 4, api.Version{}, false, api.OK)
		checkGet(t, x, "h", 4, api.Version{}, false, api.OK)
	}
}

// P8.6: what the filter has not isn't looked for, even where the block isn't sound, or has it.
func TestGetAsksTheFilter(t *testing.T) {
	for what, c := range map[string]struct {
		filter string
		ok     bool
		err    api.Errno
	}{
		"one without keys": {"\x01" + of("\x00", 8), false, api.OK},
		"one of others":    {bloom.Build(20, "x"), false, api.OK},
		"one of this":      {bloom.Build(20, "e"), true, api.ErrForm},
		"one of all":       {"\x1e" + of("\xff", 8), true, api.ErrForm},
		"none":             {"", true, api.ErrForm},
	} {
		v := api.Version{}
		if c.ok {
			v = gets("e", 10, "ten")
		}
		checkGet(t, open(t, spoiled(func(p *parts) { p.filter = c.filter })), "e", 11, v, c.ok, api.OK)
		x := open(t, spoiled(func(p *parts) { p.filter, p.data[1] = c.filter, of("x", len(p.data[1])) }))
		if v, ok, err := x.Get("e", 11); v != (api.Version{}) || ok || err != c.err {
			t.Errorf("Get with %s: %v %t %d", what, v, ok, err)
		}
	}
}

// P8.6: of a place that stands twice, as Del and as none, the index tells the place, the block the rest.
func TestLastPlaceOfADel(t *testing.T) {
	x := open(t, spoiled(func(p *parts) { p.spans[0].place = place(gets("c", 3, "")) }))
	checkGet(t, x, "c", 3, del("c", 3), true, api.OK)
	checkErr(t, "Check", x.Check(), api.OK)
}

// P8.7: it ends at the first block that isn't sound, and goes through none that it doesn't need.
func TestFromEndsAtABrokenBlock(t *testing.T) {
	blocks := three()
	for what, change := range unsound() {
		x := open(t, spoiled(change))
		whole := blocks[0]
		if what == "another count" {
			whole = nil
		}
		for range 2 {
			checkList(t, "From, up to "+what, slices.Collect(x.From("")), whole)
			checkList(t, "From c, up to "+what, slices.Collect(x.From("c")), from(whole, "c"))
			checkList(t, "From e, with "+what, slices.Collect(x.From("d")), nil)
			checkList(t, "From g, behind "+what, slices.Collect(x.From("f")), blocks[2][1:])
			checkList(t, "From behind all", slices.Collect(x.From("h")), nil)
		}
	}
	last := open(t, spoiled(func(p *parts) { p.data[2] = of("x", len(p.data[2])) }))
	checkList(t, "From, up to the last block", slices.Collect(last.From("c")), slices.Concat(blocks[0][2:], blocks[1]))
}

// P8.7: of blocks that don't stand in order, too, no lesser key is told.
func TestFromOfBlocksOutOfOrder(t *testing.T) {
	x := open(t, partsOf(10, []api.Version{gets("b", 1, ""), gets("c", 1, "")}, []api.Version{gets("a", 1, ""), gets("d", 1, "")}).bytes())
	checkList(t, "From c", slices.Collect(x.From("c")), []api.Version{gets("c", 1, ""), gets("d", 1, "")})
	checkList(t, "From d", slices.Collect(x.From("d")), []api.Version{gets("d", 1, "")})
}

// P8.7
func TestFromIsLeftAndRangedOverAgain(t *testing.T) {
	l := run(50)
	x := open(t, build(t, 100, 10, l))
	for _, key := range []string{"", l[20].Key, l[49].Key, "z"} {
		seq, want := x.From(key), from(l, key)
		for most := range len(want) + 1 {
			var got []api.Version
			for v := range seq {
				if len(got) == most {
					break
				}
				got = append(got, v)
			}
			checkList(t, "the beginning of From", got, want[:most])
			checkList(t, "From, ranged over again", slices.Collect(seq), want)
		}
	}
	seq, n := x.From(""), 0
	for range seq { // one within the other
		checkList(t, "From within itself", slices.Collect(seq), l)
		n++
	}
	if n != len(l) {
		t.Errorf("From: %d versions, want %d", n, len(l))
	}
}

// P8.8
func TestCheck(t *testing.T) {
	a, b, c := gets("a", 5, ""), gets("b", 5, ""), gets("c", 5, "")
	for what, x := range map[string]struct {
		s   string
		err api.Errno
	}{
		"a table":                        {spoiled(func(*parts) {}), api.OK},
		"no filter":                      {spoiled(func(p *parts) { p.filter = "" }), api.OK},
		"a filter of more":               {spoiled(func(p *parts) { p.filter = "\x09" + of("\xff", 9) }), api.OK},
		"a filter without the first key": {spoiled(func(p *parts) { p.filter = bloom.Build(20, "c", "e", "g\x00") }), api.ErrForm},
		"a filter without the last key":  {spoiled(func(p *parts) { p.filter = bloom.Build(20, "b", "c", "e") }), api.ErrForm},
		"a filter without a key":         {spoiled(func(p *parts) { p.filter = bloom.Build(20, "b", "c", "g\x00") }), api.ErrForm},
		"a lesser least key":             {spoiled(func(p *parts) { p.least = "a" }), api.ErrForm},
		"no least key":                   {spoiled(func(p *parts) { p.least = "" }), api.ErrForm},
		"a greater least key":            {spoiled(func(p *parts) { p.least = "c" }), api.ErrForm},
		"a least key between":            {spoiled(func(p *parts) { p.least = "b\x00" }), api.ErrForm},
		"one block":                      {partsOf(10, []api.Version{a, b, c}).bytes(), api.OK},
		"blocks in order":                {partsOf(10, []api.Version{a}, []api.Version{b}, []api.Version{c}).bytes(), api.OK},
		"blocks of a key in order":       {partsOf(10, []api.Version{gets("a", 6, "")}, []api.Version{a, b}).bytes(), api.OK},
		"a lesser first version":         {partsOf(10, []api.Version{b}, []api.Version{a, c}).bytes(), api.ErrForm},
		"a newer first version":          {partsOf(10, []api.Version{a}, []api.Version{gets("a", 6, ""), b}).bytes(), api.ErrForm},
		"the same first version":         {partsOf(10, []api.Version{a, b}, []api.Version{b, c}).bytes(), api.ErrForm},
		"the same first version, a Del":  {partsOf(10, []api.Version{a, b}, []api.Version{del("b", 5), c}).bytes(), api.ErrForm},
		"the same key, an older version": {partsOf(10, []api.Version{a, b}, []api.Version{gets("b", 4, ""), c}).bytes(), api.OK},
	} {
		checkErr(t, "Check of "+what, open(t, x.s).Check(), x.err)
	}
	for what, change := range unsound() {
		checkErr(t, "Check with "+what, open(t, spoiled(change)).Check(), api.ErrForm)
	}
	for i := range 3 {
		x := open(t, spoiled(func(p *parts) { p.data[i] = of("x", len(p.data[i])) }))
		checkErr(t, "Check with a broken block", x.Check(), api.ErrForm)
	}
}

// P8.9
func TestWhatWasBuilt(t *testing.T) {
	for _, block := range []int{64, 150, 4096} {
		for _, bits := range []int{0, 1, 10, 20} {
			for _, many := range []int{1, 2, 16, 33, 100} {
				l := run(many)
				x := open(t, build(t, block, bits, l))
				checkSeen(t, x, l)
				checkSpans(t, x, split(block, l))
			}
		}
	}
	checkSeen(t, open(t, spoiled(func(*parts) {})), slices.Concat(three()...))
}

// P8.9: any tables.
func TestAnyTable(t *testing.T) {
	r := rand.New(rand.NewSource(9))
	keys := []string{"\x00", "a", "a\x00", "a\x00\xff", "ab", "b", "bb", "c", "\xff", "\xff\xff", of("k", 96), of("k", 95)}
	for range 400 {
		places := map[api.Version]api.Version{}
		for range 1 + r.Intn(60) {
			v := gets(keys[r.Intn(len(keys))], 1+uint64(r.Intn(30)), of("v", r.Intn(1+r.Intn(200))))
			if r.Intn(3) == 0 {
				v = del(v.Key, v.Seq)
			}
			places[api.Version{Key: v.Key, Seq: v.Seq}] = v
		}
		var l []api.Version
		for _, v := range places {
			l = append(l, v)
		}
		slices.SortFunc(l, func(a, b api.Version) int {
			if memtable.Less(a, b) {
				return -1
			}
			return 1
		})
		block, bits := 64+r.Intn(400), r.Intn(21)
		checkBuilt(t, block, bits, l)
		checkSeen(t, open(t, build(t, block, bits, l)), l)
	}
}

// R1: of no table all is nothing.
func TestNoTable(t *testing.T) {
	var x *table.Table
	checkErr(t, "Check", x.Check(), api.ErrArg)
	checkGet(t, x, "a", 1, api.Version{}, false, api.ErrArg)
	checkList(t, "From", slices.Collect(x.From("")), nil)
	if least, greatest, n := x.Bounds(); len(x.Spans()) != 0 || least != "" || greatest != "" || n != 0 {
		t.Errorf("Spans, Bounds: %v %q %q %d", x.Spans(), least, greatest, n)
	}
}

// spoil writes into a text's own memory: whoever shares it sees that.
func spoil(s string) {
	b := unsafe.Slice(unsafe.StringData(s), len(s))
	for i := range b {
		b[i] = '!'
	}
}

// lent is a text in memory that may be spoiled.
func lent(s string) string {
	b := []byte(s)
	return unsafe.String(unsafe.SliceData(b), len(b))
}

// R3: what is handed in isn't kept nor written into, and what comes out is new memory.
func TestMemoryIsNotShared(t *testing.T) {
	l := run(60)
	s := lent(build(t, 100, 10, l))
	if !slices.Equal(l, run(60)) {
		t.Error("Build has written into its versions")
	}
	x := open(t, s)
	spoil(s)
	checkSeen(t, x, l)
	key := lent(l[20].Key)
	seq := x.From(key)
	spoil(key)
	checkList(t, "From a key that is no more", slices.Collect(seq), from(l, l[20].Key))
	for v := range x.From("") {
		spoil(v.Key)
		spoil(v.Value)
	}
	v, _, _ := x.Get(l[1].Key, l[1].Seq)
	spoil(v.Key)
	spoil(v.Value)
	least, greatest, _ := x.Bounds()
	spoil(least)
	spoil(greatest)
	spans := x.Spans()
	for i := range spans {
		spoil(spans[i].Key)
	}
	clear(spans[:cap(spans)])
	checkSeen(t, x, l)
	checkSpans(t, x, split(100, l))
}

// R4: tables know nothing of one another, and looks change nothing.
func TestTablesApart(t *testing.T) {
	l, m := run(30), slices.Concat(three()...)
	x, y := open(t, build(t, 64, 10, l)), open(t, build(t, 200, 3, m))
	for range 2 {
		checkSeen(t, x, l)
		checkSeen(t, y, m)
	}
	if build(t, 64, 10, l) != build(t, 64, 10, run(30)) {
		t.Error("Build: other bytes of the same versions")
	}
}
