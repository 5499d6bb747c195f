package files_test

import (
	"math"
	"math/rand"
	"reflect"
	"slices"
	"strings"
	"testing"
	"unsafe"

	"tapestry/api"
	"tapestry/codec"
	"tapestry/files"
	"tapestry/frame"
)

const lastGeneration = 1 << 62

// rootOf is one of the Generation 7.
func rootOf(l ...api.File) api.Root { return api.Root{Generation: 7, Files: l} }

// file is one of a name, of as many bytes as fill these blocks.
func file(name string, blocks ...int) api.File {
	return api.File{Name: name, Size: len(blocks) * api.BlockSize, Blocks: blocks}
}

// sized is a file with blocks that may not be as many as it takes.
func sized(size int, blocks ...int) api.File { return api.File{Name: "f", Size: size, Blocks: blocks} }

// every is each second block: runs of one block alone, which take as many bytes as can be.
func every(from, n int) []int {
	l := make([]int, n)
	for i := range l {
		l[i] = from + 2*i
	}
	return l
}

// named are so many files without bytes, whose names rise.
func named(n int) []api.File {
	l := make([]api.File, n)
	for i := range l {
		l[i].Name = string([]byte{'n', byte('0' + i)})
	}
	return l
}

// framed is a root's frame, of any bytes.
func framed(t *testing.T, load string) string {
	t.Helper()
	s, err := frame.Put(api.Frame{Kind: api.FrameRoot, Load: load})
	if err != api.OK {
		t.Fatalf("frame.Put: %d", err)
	}
	return s
}

// equal compares roots: a list without elements may be nil.
func equal(a, b api.Root) bool {
	return a.Generation == b.Generation && slices.EqualFunc(a.Files, b.Files, func(x, y api.File) bool {
		return x.Name == y.Name && x.Size == y.Size && slices.Equal(x.Blocks, y.Blocks)
	})
}

func checkRoot(t *testing.T, what string, got, want api.Root) {
	t.Helper()
	if !equal(got, want) {
		t.Errorf("%s: %v, want %v", what, got, want)
	}
}

func checkErr(t *testing.T, what string, got, want api.Errno) {
	t.Helper()
	if got != want {
		t.Errorf("%s: %d, want %d", what, got, want)
	}
}

// refuseRoot asks EncodeRoot for an error, and DecodeRoot, by bytes that say the root all the same, for ErrForm.
func refuseRoot(t *testing.T, r api.Root, blocks int, want api.Errno) {
	t.Helper()
	if s, err := files.EncodeRoot(r, blocks); s != "" || err != want {
		t.Errorf("EncodeRoot(%v, %d): %d bytes, %d, want none, %d", r, blocks, len(s), err, want)
	}
	refuseBytes(t, framed(t, load(r)), blocks)
}

func refuseBytes(t *testing.T, s string, blocks int) {
	t.Helper()
	if r, err := files.DecodeRoot(s, blocks); err != api.ErrForm || !reflect.DeepEqual(r, api.Root{}) {
		t.Errorf("DecodeRoot(% x, %d): %v %d, want nothing, %d", s[:min(len(s), 60)], blocks, r, err, api.ErrForm)
	}
}

// takeRoot asks both for a root that may be.
func takeRoot(t *testing.T, r api.Root, blocks int) {
	t.Helper()
	s, err := files.EncodeRoot(r, blocks)
	if want := framed(t, load(r)); s != want || err != api.OK {
		t.Errorf("EncodeRoot(%v, %d): % x %d, want % x", r, blocks, s, err, want)
	}
	for _, tail := range []string{"", "\x00", s, strings.Repeat("\x00", 4000)} {
		got, err := files.DecodeRoot(s+tail, blocks)
		checkErr(t, "DecodeRoot", err, api.OK)
		checkRoot(t, "DecodeRoot", got, r)
	}
}

// load is what a root's frame bears, as the chapter says it: block by block, a run ends where the next one isn't 1 more.
func load(r api.Root) string {
	s := codec.PutUint(r.Generation) + codec.PutUint(uint64(len(r.Files)))
	for _, f := range r.Files {
		var runs [][2]int
		for i, b := range f.Blocks {
			if i > 0 && b == f.Blocks[i-1]+1 {
				runs[len(runs)-1][1]++
			} else {
				runs = append(runs, [2]int{b, 1})
			}
		}
		s += codec.PutText(f.Name) + codec.PutUint(uint64(f.Size)) + codec.PutUint(uint64(len(runs)))
		for _, run := range runs {
			s += codec.PutUint(uint64(run[0])) + codec.PutUint(uint64(run[1]))
		}
	}
	return s
}

// P4.1: the bytes themselves.
func TestRootBytes(t *testing.T) {
	for _, c := range []struct {
		r    api.Root
		load string
	}{
		{api.Root{Generation: 1}, "\x01\x00"},
		{api.Root{Generation: 300}, "\xac\x02\x00"},
		{api.Root{Generation: 2, Files: []api.File{{Name: "a", Size: 300, Blocks: []int{32, 33}}}}, "\x02\x01\x01a\xac\x02\x01\x20\x02"},
		{api.Root{Generation: 3, Files: []api.File{{Name: "a", Size: 310, Blocks: []int{32, 34}}}}, "\x03\x01\x01a\xb6\x02\x02\x20\x01\x22\x01"},
		{rootOf(file("\x00"), file("b", 39, 38, 32, 33, 34, 36)), "\x07\x02\x01\x00\x00\x00\x01b\x80\x0c\x04\x27\x01\x26\x01\x20\x03\x24\x01"},
	} {
		if got, want := load(c.r), c.load; got != want {
			t.Errorf("the load of %v: % x, want % x", c.r, got, want)
		}
		takeRoot(t, c.r, 40)
	}
}

// P4.1
func TestRootsThatMayBe(t *testing.T) {
	long := strings.Repeat("\xff", api.MaxName)
	for _, r := range []api.Root{
		{Generation: 1}, {Generation: lastGeneration}, {Generation: lastGeneration - 1},
		rootOf(file("a")), rootOf(file(long)), rootOf(file(long[1:]), file(long)), rootOf(file("\x00"), file("\x00\x00"), file("a"), file("a\x00"), file("b")),
		rootOf(named(api.MaxFiles)...),
		rootOf(sized(1, 32)), rootOf(sized(256, 39)), rootOf(sized(257, 39, 32)), rootOf(sized(512, 33, 34)), rootOf(sized(513, 36, 35, 34)),
		rootOf(file("a", 39, 38, 37), file("b"), file("c", 32, 34, 36, 33, 35)),
	} {
		takeRoot(t, r, 40)
		takeRoot(t, r, 41)
		takeRoot(t, r, api.MaxBlocks)
		takeRoot(t, r, math.MaxInt)
	}
}

// P4.1
func TestRootsThatMayNotBe(t *testing.T) {
	long := strings.Repeat("n", api.MaxName)
	for _, r := range []api.Root{
		{}, {Generation: lastGeneration + 1}, {Generation: math.MaxUint64}, {Generation: 0, Files: named(2)},
		rootOf(named(api.MaxFiles + 1)...),
		rootOf(file("")), rootOf(file(long + "n")), rootOf(file("a"), file(long+"n")),
		rootOf(file("b"), file("a")), rootOf(file("a"), file("a")), rootOf(file("a"), file("c"), file("b")), rootOf(file("a\x00"), file("a")), rootOf(file("\xff"), file("z")),
		rootOf(sized(-1)), rootOf(sized(-256, 32)), rootOf(sized(math.MinInt)), rootOf(sized(math.MaxInt)), rootOf(sized(math.MaxInt, 32)),
		rootOf(sized(0, 32)), rootOf(sized(1)), rootOf(sized(1, 32, 33)), rootOf(sized(256)), rootOf(sized(256, 32, 33)), rootOf(sized(257, 32)), rootOf(sized(512, 32)), rootOf(sized(511, 32, 33, 34)),
		rootOf(file("a", 31)), rootOf(file("a", 0)), rootOf(file("a", 40)), rootOf(file("a", 38, 39, 40)), rootOf(file("a", 31, 32)), rootOf(file("a", -1)), rootOf(file("a", math.MinInt)), rootOf(file("a", math.MaxInt)),
		rootOf(file("a", 32, 32)), rootOf(file("a", 33, 34, 35, 34)), rootOf(file("a", 33), file("b", 32, 33)), rootOf(file("a", 39), file("b"), file("c", 39)),
	} {
		refuseRoot(t, r, 40, api.ErrArg)
	}
}

// P4.1: how many blocks there are.
func TestRootBlocks(t *testing.T) {
	for _, blocks := range []int{0, 1, 31, 32, -1, -40, math.MinInt} {
		takeRoot(t, rootOf(), blocks)
		takeRoot(t, rootOf(named(3)...), blocks)
		for _, b := range []int{0, 31, 32, 33, -1, -2} {
			refuseRoot(t, rootOf(file("a", b)), blocks, api.ErrArg)
		}
	}
	takeRoot(t, rootOf(file("a", 32)), 33)
	refuseRoot(t, rootOf(file("a", 33)), 33, api.ErrArg)
	for _, blocks := range []int{api.MaxBlocks, api.MaxBlocks + 1, 1 << 20, math.MaxInt} {
		takeRoot(t, rootOf(file("a", api.MaxBlocks-1, api.MaxBlocks-2)), blocks)
		refuseRoot(t, rootOf(file("a", api.MaxBlocks)), blocks, api.ErrArg)
	}
	takeRoot(t, rootOf(file("a", 16382)), api.MaxBlocks-1)
	refuseRoot(t, rootOf(file("a", 16383)), api.MaxBlocks-1, api.ErrArg)
	all := every(32, api.MaxBlocks-32)
	for i := range all {
		all[i] = 32 + i
	}
	takeRoot(t, rootOf(file("a", all...)), api.MaxBlocks)
	refuseRoot(t, rootOf(file("a", append(all, 32)...)), api.MaxBlocks, api.ErrArg)
}

// P4.1: just as many bytes as a body has, and one more.
func TestRootIsFull(t *testing.T) {
	name, of3840 := strings.Repeat("n", 10), ""
	for n := 1250; n < 1290; n++ { // of three bytes each
		for k := 1; k <= 3; k++ {
			r := rootOf(file(name[:k], every(128, n)...))
			if s := framed(t, load(r)); len(s) == 3840 {
				of3840 = name[:k]
				takeRoot(t, r, 5000)
				r.Files[0].Name += "n"
				refuseRoot(t, r, 5000, api.ErrFull)
				r.Files[0].Blocks[0] = 31 // what may not be is asked first
				refuseRoot(t, r, 5000, api.ErrArg)
			}
		}
	}
	if of3840 == "" {
		t.Error("no root of 3840 bytes was tried")
	}
	refuseRoot(t, rootOf(file("a", every(33, 8000)...)), api.MaxBlocks, api.ErrFull)
}

// P4.1: bytes that EncodeRoot doesn't write.
func TestDecodeRootRefuses(t *testing.T) {
	good := "\x03\x01\x01a\xb6\x02\x02\x20\x01\x22\x01"
	if _, err := files.DecodeRoot(framed(t, good), 40); err != api.OK {
		t.Fatalf("DecodeRoot: %d", err)
	}
	huge := codec.PutUint(math.MaxUint64)
	for _, load := range []string{
		"", "\x03", "\x80\x00\x00", huge + "\x00", "\x03" + huge, "\x03\x01", "\x03\x00\x00", good + "\x00", good + good,
		"\x03\x01\x01a\xb6\x02\x02\x20\x01\x21\x01", "\x03\x01\x01a\x00\x01\x20\x00", "\x03\x01\x01a\xb6\x02\x03\x20\x01\x22\x01\x23\x00", "\x03\x01\x01a\xb6\x02\x03\x20\x01\x21\x00\x22\x01",
		"\x03\x01\x01a" + huge + "\x00", "\x03\x01\x01a" + codec.PutUint(1<<63) + "\x00", "\x03\x01\x01a\x00" + huge, "\x03\x01\x01a\x00" + huge + "\x20\x01",
		"\x03\x01\x01a\xb6\x02\x01\x20" + huge, "\x03\x01\x01a\xb6\x02\x01" + huge + "\x02", "\x03\x01\x01a\xb6\x02\x01\x20\x83\x00",
		"\x03\x01\x01a\xb6\x82\x00\x02\x20\x01\x22\x01", "\x03\x01\x81\x00a\xb6\x02\x02\x20\x01\x22\x01", "\x03\x01\x00\x00\x00", "\x03\x02\x01a\x00\x00",
	} {
		refuseBytes(t, framed(t, load), 40)
	}
	s := framed(t, good)
	for n := range len(s) {
		refuseBytes(t, s[:n], 40)
		refuseBytes(t, framed(t, good[:min(n, len(good)-1)]), 40)
		for bit := range 8 {
			refuseBytes(t, s[:n]+string([]byte{s[n] ^ 1<<bit})+s[n+1:], 40)
		}
	}
	for kind := range 256 {
		if other, err := frame.Put(api.Frame{Kind: uint8(kind), Load: good}); err == api.OK && kind != api.FrameRoot {
			refuseBytes(t, other, 40)
		}
	}
	refuseBytes(t, "\x00"+s, 40)
	many := strings.Repeat("\x20"+codec.PutUint(api.MaxBlocks), 5000)
	refuseBytes(t, framed(t, "\x03\x01\x01a\x00"+codec.PutUint(5000)+many), math.MaxInt)
}

// P4.1: of any roots.
func TestAnyRoots(t *testing.T) {
	r := rand.New(rand.NewSource(1))
	for range 500 {
		blocks := 33 + r.Intn(200)
		free := r.Perm(blocks - 32)
		root := api.Root{Generation: uint64(1 + r.Int63n(lastGeneration))}
		for _, f := range named(r.Intn(10)) {
			for n := min(r.Intn(30), len(free)); n > 0; n-- {
				if r.Intn(3) == 0 { // or what rises by 1 stays rare
					slices.Sort(free)
				}
				f.Blocks, free = append(f.Blocks, 32+free[0]), free[1:]
			}
			f.Size = max(len(f.Blocks)*256-r.Intn(256), 0)
			root.Files = append(root.Files, f)
		}
		takeRoot(t, root, blocks)
		s, _ := files.EncodeRoot(root, blocks)
		at := r.Intn(len(s))
		refuseBytes(t, s[:at]+string([]byte{s[at] ^ byte(1+r.Intn(255))})+s[at+1:], blocks)
	}
}

// R3: what a root's calls are handed stays, and what they answer is new memory.
func TestRootsShareNothing(t *testing.T) {
	in := rootOf(file("name", 32, 33), file("other", 34))
	s, _ := files.EncodeRoot(in, 40)
	checkRoot(t, "the argument", in, rootOf(file("name", 32, 33), file("other", 34)))
	got, _ := files.DecodeRoot(s, 40)
	from := uintptr(unsafe.Pointer(unsafe.StringData(s)))
	for _, f := range got.Files {
		if at := uintptr(unsafe.Pointer(unsafe.StringData(f.Name))); at >= from && at < from+uintptr(len(s)) {
			t.Error("a name is the argument's memory")
		}
	}
	_ = append(got.Files[0].Blocks, 99)
	_ = append(got.Files[:1], api.File{})
	if again, _ := files.DecodeRoot(s, 40); !equal(again, in) {
		t.Errorf("DecodeRoot once more: %v", again)
	}
}
