package files_test

import (
	"math"
	"reflect"
	"slices"
	"strings"
	"testing"
	"unsafe"

	"tapestry/api"
	"tapestry/block"
	"tapestry/files"
)

// of are so many bytes, all alike.
func of(c byte, n int) string { return strings.Repeat(string([]byte{c}), n) }

// bytes are so many, no two neighbours alike, from one on.
func bytes(c byte, n int) string {
	b := make([]byte, n)
	for i := range b {
		b[i] = c + byte(i*7)
	}
	return string(b)
}

func disk(t *testing.T, blocks int) *block.Dev {
	t.Helper()
	d, err := block.New(blocks)
	if err != api.OK {
		t.Fatalf("block.New(%d): %d", blocks, err)
	}
	return d
}

func open(t *testing.T, d *block.Dev) *files.FS {
	t.Helper()
	f, err := files.Open(d)
	if f == nil || err != api.OK {
		t.Fatalf("Open: %v %d", f, err)
	}
	return f
}

// start is a file system on a new disk, with what is committed at once: texts by names.
func start(t *testing.T, blocks int, l map[string]string) (*files.FS, *block.Dev) {
	t.Helper()
	d := disk(t, blocks)
	f := open(t, d)
	for name, s := range l {
		checkErr(t, "Create", f.Create(name), api.OK)
		checkErr(t, "Append", f.Append(name, s), api.OK)
	}
	checkErr(t, "Commit", f.Commit(), api.OK)
	return f, d
}

func checkRead(t *testing.T, f *files.FS, name string, from, n int, want string, err api.Errno) {
	t.Helper()
	if got, ge := f.Read(name, from, n); got != want || ge != err {
		t.Errorf("Read(%q, %d, %d): %q %d, want %q %d", name, from, n, short(got), ge, short(want), err)
	}
}

// short is a text as a failed test may tell it.
func short(s string) string {
	if len(s) > 40 {
		return s[:20] + ".." + s[len(s)-18:]
	}
	return s
}

func checkSize(t *testing.T, f *files.FS, name string, want int, err api.Errno) {
	t.Helper()
	if got, ge := f.Size(name); got != want || ge != err {
		t.Errorf("Size(%q): %d %d, want %d %d", name, got, ge, want, err)
	}
}

// checkHand asks whether these files are at hand, and no others.
func checkHand(t *testing.T, f *files.FS, want map[string]string) {
	t.Helper()
	var names []string
	for name, s := range want {
		names = append(names, name)
		checkSize(t, f, name, len(s), api.OK)
		checkRead(t, f, name, 0, math.MaxInt, s, api.OK)
	}
	slices.Sort(names)
	if got := f.Names(); !slices.Equal(got, names) {
		t.Errorf("Names: %q, want %q", got, names)
	}
}

// checkDead asks whether a file system answers no more, whatever it is asked.
func checkDead(t *testing.T, f *files.FS, want api.Errno) {
	t.Helper()
	for _, name := range []string{"a", "", of('n', 33), "none"} {
		checkSize(t, f, name, 0, want)
		checkRead(t, f, name, 0, 9, "", want)
		checkRead(t, f, name, -1, -1, "", want)
		checkErr(t, "Create", f.Create(name), want)
		checkErr(t, "Append", f.Append(name, "x"), want)
		checkErr(t, "Append of nothing", f.Append(name, ""), want)
		checkErr(t, "Rename", f.Rename(name, "b"), want)
		checkErr(t, "Rename", f.Rename("a", name), want)
		checkErr(t, "Delete", f.Delete(name), want)
	}
	checkErr(t, "Commit", f.Commit(), want)
	f.Revert()
	if l, n := f.Names(), f.Free(); len(l) != 0 || n != 0 {
		t.Errorf("Names %q, Free %d, want nothing, 0", l, n)
	}
	if r := f.Root(); !reflect.DeepEqual(r, api.Root{}) {
		t.Errorf("Root: %v, want noughts", r)
	}
}

// P4.2, R1
func TestOpenRefuses(t *testing.T) {
	if f, err := files.Open(nil); f != nil || err != api.ErrArg {
		t.Errorf("Open(nil): %v %d", f, err)
	}
	d := disk(t, 40)
	d.Arm(1)
	d.Sync()
	if f, err := files.Open(d); f != nil || err != api.ErrDead || d.Acts() != 1 {
		t.Errorf("Open of a disk that is down: %v %d, %d acts", f, err, d.Acts())
	}
	for n := 1; n <= 4; n++ {
		d := disk(t, 40)
		d.Arm(n)
		if f, err := files.Open(d); f != nil || err != api.ErrDead || d.Acts() != n {
			t.Errorf("Open, the power goes at %d: %v %d, %d acts", n, f, err, d.Acts())
		}
	}
}

// P4.2, P4.8: on a new disk.
func TestOpenANewDisk(t *testing.T) {
	for _, blocks := range []int{40, 41, 1000, api.MaxBlocks} {
		d := disk(t, blocks)
		f := open(t, d)
		checkRoot(t, "Root", f.Root(), api.Root{Generation: 1})
		checkHand(t, f, nil)
		if f.Free() != blocks-32 || d.Acts() != 4 || len(d.Pending()) != 0 {
			t.Errorf("Free %d, %d acts, %v pending", f.Free(), d.Acts(), d.Pending())
		}
		checkErr(t, "Commit of nothing", f.Commit(), api.OK)
		again := open(t, d)
		checkRoot(t, "Root", again.Root(), api.Root{Generation: 1})
		if d.Acts() != 4 {
			t.Errorf("%d acts", d.Acts())
		}
	}
}

// headOf is a Generation's head, as the chapter says it.
func headOf(g uint64) string {
	s := ""
	for shift := 56; shift >= 0; shift -= 8 {
		s += string([]byte{byte(g >> shift)})
	}
	return s + of(0, 240) + s
}

// lay writes a slot by hand: a head, and a body's bytes.
func lay(t *testing.T, d *block.Dev, slot int, head, body string) {
	t.Helper()
	body += of(0, 3840-len(body))
	for i := range 16 {
		s := head
		if i > 0 {
			s = body[(i-1)*256 : i*256]
		}
		checkErr(t, "Write", d.Write(slot*16+i, s), api.OK)
	}
	checkErr(t, "Sync", d.Sync(), api.OK)
}

// encode is a root as bytes.
func encode(t *testing.T, r api.Root) string {
	t.Helper()
	s, err := files.EncodeRoot(r, 40)
	checkErr(t, "EncodeRoot", err, api.OK)
	return s
}

// P4.2: which of two slots is the safe root.
func TestOpenTakesTheGreater(t *testing.T) {
	in := func(g uint64) api.Root {
		return api.Root{Generation: g, Files: []api.File{{Name: string([]byte{'f', byte('0' + g%10)})}}}
	}
	for _, c := range [][3]uint64{{2, 1, 2}, {2, 3, 3}, {8, 3, 8}, {2, 99, 99}, {256, 1, 256}, {2, 257, 257}, {1 << 62, 1<<62 - 1, 1 << 62}, {1<<62 - 2, 1<<62 - 1, 1<<62 - 1}, {0, 5, 5}, {6, 0, 6}} {
		d := disk(t, 40)
		for slot, g := range c[:2] {
			if g > 0 {
				lay(t, d, slot, headOf(g), encode(t, in(g)))
			}
		}
		acts := d.Acts()
		f := open(t, d)
		checkRoot(t, "Root", f.Root(), in(c[2]))
		checkHand(t, f, map[string]string{in(c[2]).Files[0].Name: ""})
		checkErr(t, "Commit", f.Commit(), api.OK)
		if d.Acts() != acts {
			t.Errorf("Open, Commit: %d acts", d.Acts()-acts)
		}
	}
}

// P4.2: slots that have no root: the one of the lesser Generation is it, or a new one.
func TestOpenPassesOver(t *testing.T) {
	root := func(g uint64) string { return encode(t, api.Root{Generation: g}) }
	high := framed(t, string([]byte{0x80, 0x80, 0x80, 0x80, 0x80, 0x80, 0x80, 0x80, 0xc0, 0x00})) // 2^62 and more, as noughts end it
	for _, c := range []struct {
		slot       int
		head, body string
	}{
		{0, of(0, 256), root(8)}, {1, of(0, 256), root(9)}, // no head
		{0, headOf(9), root(9)}, {1, headOf(8), root(8)}, // the other slot's
		{0, headOf(8), root(6)}, {0, headOf(6), root(8)}, {1, headOf(9), root(7)}, {0, headOf(8), root(9)}, // another Generation's
		{0, headOf(8), ""}, {0, headOf(8), "\x01" + root(8)}, {1, headOf(9), root(9)[1:]}, {0, headOf(8), framed(t, "\x08\x00\x00")}, {0, headOf(8), framed(t, "\x08\x01\x01a\x01\x01\x28\x01")}, // no root
		{0, headOf(8)[:255] + "\x09", root(8)}, {0, headOf(8)[:248] + of(0, 8), root(8)}, {0, of(0, 8) + headOf(8)[8:], root(8)}, // no head: ends that differ
		{0, headOf(6)[:100] + headOf(8)[100:], root(8)}, {0, headOf(8)[:100] + headOf(6)[100:], root(8)}, {0, headOf(8)[:100] + headOf(6)[100:], root(6)}, // torn
		{0, headOf(8)[:8] + "\x01" + headOf(8)[9:], root(8)}, {0, headOf(8)[:247] + "\x01" + headOf(8)[248:], root(8)}, {0, headOf(8)[:128] + "\x08" + headOf(8)[129:], root(8)}, // other bytes than noughts
		{0, headOf(0), root(8)}, {0, headOf(0), framed(t, "\x00\x00")}, {1, headOf(1<<62 + 1), high}, {0, headOf(1<<62 + 2), high}, {0, headOf(1 << 63), high},
	} {
		d := disk(t, 40)
		lay(t, d, c.slot, c.head, c.body)
		acts := d.Acts()
		f := open(t, d)
		checkRoot(t, "Root", f.Root(), api.Root{Generation: 1})
		if d.Acts() != acts+4 || f.Free() != 8 {
			t.Errorf("the slot %d, % x..: %d acts, Free %d", c.slot, c.head[:8], d.Acts()-acts, f.Free())
		}
		checkRoot(t, "Root behind another Open", open(t, d).Root(), api.Root{Generation: 1})

		d = disk(t, 40)
		lay(t, d, c.slot, c.head, c.body)
		g := uint64(3 - c.slot) // of the other slot, and less
		lay(t, d, 1-c.slot, headOf(g), root(g))
		checkRoot(t, "Root of the other slot", open(t, d).Root(), api.Root{Generation: g})
	}
}

// P4.2: a head in the other slot than its body.
func TestOpenReadsHeadAndBodyOfOneSlot(t *testing.T) {
	for slot := range 2 {
		d := disk(t, 40)
		g := uint64(8 + slot)
		lay(t, d, slot, of(0, 256), encode(t, api.Root{Generation: g}))
		lay(t, d, 1-slot, headOf(g), "")
		checkRoot(t, "Root", open(t, d).Root(), api.Root{Generation: 1})
	}
}

// P4.2: a root whose bytes take the whole body; a body's root leans on the disk's blocks.
func TestOpenReadsTheWholeBody(t *testing.T) {
	for n := 1200; n < 1290; n++ {
		r := api.Root{Generation: 4, Files: []api.File{file("ab", every(128, n)...)}}
		s, err := files.EncodeRoot(r, 5000)
		if len(s) < 3585 || err != api.OK { // the last block of the body
			continue
		}
		d := disk(t, 5000)
		lay(t, d, 0, headOf(4), s)
		f := open(t, d)
		checkRoot(t, "Root", f.Root(), r)
		if f.Free() != 5000-32-n {
			t.Errorf("Free: %d", f.Free())
		}
		d = disk(t, 128+2*n-2)
		lay(t, d, 0, headOf(4), s)
		checkRoot(t, "Root on a disk that ends ahead of its last block", open(t, d).Root(), api.Root{Generation: 1})
	}
}

// P4.3
func TestNames(t *testing.T) {
	f := open(t, disk(t, 40))
	for i, name := range []string{"b", "a\x00", "\xff", "ab", "a", "B", of('b', 32), "\x00"} {
		checkErr(t, "Create", f.Create(name), api.OK)
		if i == 3 {
			checkErr(t, "Commit", f.Commit(), api.OK)
		}
	}
	want := []string{"\x00", "B", "a", "a\x00", "ab", "b", of('b', 32), "\xff"}
	if got := f.Names(); !slices.Equal(got, want) {
		t.Errorf("Names: %q, want %q", got, want)
	}
}

// P4.3: any piece, of bytes that are safe, of new ones, and of both.
func TestRead(t *testing.T) {
	for _, c := range [][2]int{{0, 0}, {0, 5}, {5, 0}, {255, 1}, {256, 1}, {256, 0}, {257, 300}, {600, 600}, {512, 0}, {0, 600}} {
		all := bytes(1, c[0]+c[1])
		f, _ := start(t, 40, map[string]string{"f": all[:c[0]], "g": "other"})
		checkErr(t, "Append", f.Append("f", all[c[0]:]), api.OK)
		checkSize(t, f, "f", len(all), api.OK)
		edges := []int{0, 1, 255, 256, 257, 511, 512, 513, c[0] - 1, c[0], c[0] + 1, len(all) - 1, len(all), len(all) + 1, 2000, math.MaxInt}
		for _, from := range edges {
			for _, n := range edges {
				if from < 0 || n < 0 {
					continue
				}
				first := min(from, len(all))
				checkRead(t, f, "f", from, n, all[first:first+min(n, len(all)-first)], api.OK)
			}
		}
	}
}

// P4.3: with the error that is asked first.
func TestLooksRefuse(t *testing.T) {
	f, _ := start(t, 40, map[string]string{"a": "text"})
	checkErr(t, "Create", f.Create("new"), api.OK)
	for _, name := range []string{"b", "", "a\x00", "A", of('a', 33)} {
		checkSize(t, f, name, 0, api.ErrName)
		checkRead(t, f, name, 0, 1, "", api.ErrName)
	}
	for _, name := range []string{"a", "new", "b", ""} {
		for _, n := range []int{-1, math.MinInt} {
			checkRead(t, f, name, n, 1, "", api.ErrArg)
			checkRead(t, f, name, 0, n, "", api.ErrArg)
			checkRead(t, f, name, n, n, "", api.ErrArg)
		}
	}
	checkHand(t, f, map[string]string{"a": "text", "new": ""})
}

// P4.4
func TestCreate(t *testing.T) {
	f := open(t, disk(t, 40))
	long := of('n', api.MaxName)
	want := map[string]string{}
	for _, name := range []string{"a", "\x00", "\xff", " ", "a/b", long, long[1:]} {
		checkErr(t, "Create", f.Create(name), api.OK)
		want[name] = ""
		checkErr(t, "Create once more", f.Create(name), api.ErrThere)
	}
	checkErr(t, "Append", f.Append("a", "text"), api.OK)
	checkErr(t, "Create once more", f.Create("a"), api.ErrThere)
	want["a"] = "text"
	checkErr(t, "Create without a name", f.Create(""), api.ErrArg)
	checkErr(t, "Create of a long name", f.Create(long+"n"), api.ErrArg)
	checkHand(t, f, want)
}

// P4.4: no more than MaxFiles.
func TestCreateIsFull(t *testing.T) {
	f := open(t, disk(t, 40))
	for _, n := range named(api.MaxFiles) {
		checkErr(t, "Create", f.Create(n.Name), api.OK)
	}
	checkErr(t, "Create of one more", f.Create("more"), api.ErrFull)
	checkErr(t, "Create without a name", f.Create(""), api.ErrArg)
	checkErr(t, "Create of one that is there", f.Create("n0"), api.ErrThere)
	checkErr(t, "Commit", f.Commit(), api.OK)
	checkErr(t, "Create of one more", f.Create("more"), api.ErrFull)
	checkErr(t, "Rename", f.Rename("n0", "more"), api.OK)
	checkErr(t, "Create of one more", f.Create("n0"), api.ErrFull)
	checkErr(t, "Delete", f.Delete("n1"), api.OK)
	checkErr(t, "Create", f.Create("n0"), api.OK)
	checkErr(t, "Create of one more", f.Create("n1"), api.ErrFull)
	if n := len(f.Names()); n != api.MaxFiles {
		t.Errorf("%d files", n)
	}
}

// P4.4
func TestAppend(t *testing.T) {
	f, _ := start(t, 40, map[string]string{"a": "one", "b": ""})
	for _, s := range []string{"", "two", "", of(0, 300), "\xff"} {
		checkErr(t, "Append", f.Append("a", s), api.OK)
	}
	checkErr(t, "Append to none", f.Append("c", "x"), api.ErrName)
	checkErr(t, "Append to none", f.Append("", "x"), api.ErrName)
	checkErr(t, "Append of nothing to none", f.Append("c", ""), api.ErrName)
	checkHand(t, f, map[string]string{"a": "onetwo" + of(0, 300) + "\xff", "b": ""})
}

// P4.4
func TestDelete(t *testing.T) {
	f, _ := start(t, 40, map[string]string{"a": "one", "b": "two"})
	checkErr(t, "Create", f.Create("c"), api.OK)
	for _, name := range []string{"a", "c"} {
		checkErr(t, "Delete", f.Delete(name), api.OK)
		checkErr(t, "Delete once more", f.Delete(name), api.ErrName)
	}
	checkErr(t, "Delete of none", f.Delete(""), api.ErrName)
	checkHand(t, f, map[string]string{"b": "two"})
	checkErr(t, "Create", f.Create("a"), api.OK)
	checkHand(t, f, map[string]string{"a": "", "b": "two"})
	checkErr(t, "Commit", f.Commit(), api.OK)
	checkHand(t, f, map[string]string{"a": "", "b": "two"})
}

// P4.4
func TestRename(t *testing.T) {
	f, _ := start(t, 40, map[string]string{"a": "one", "b": "two"})
	checkErr(t, "Append", f.Append("a", "+"), api.OK)
	checkErr(t, "Rename", f.Rename("a", "c"), api.OK)
	checkHand(t, f, map[string]string{"b": "two", "c": "one+"})
	checkErr(t, "Rename to one that is there", f.Rename("c", "b"), api.OK)
	checkHand(t, f, map[string]string{"b": "one+"})
	checkErr(t, "Rename to its own name", f.Rename("b", "b"), api.OK)
	for _, to := range []string{"", of('n', 33)} {
		checkErr(t, "Rename to no name", f.Rename("b", to), api.ErrArg)
		checkErr(t, "Rename of none to no name", f.Rename("a", to), api.ErrArg)
	}
	for _, from := range []string{"a", "c", "", of('n', 33)} {
		checkErr(t, "Rename of none", f.Rename(from, "d"), api.ErrName)
		checkErr(t, "Rename of none", f.Rename(from, "b"), api.ErrName)
	}
	checkErr(t, "Rename of none to its own name", f.Rename("a", "a"), api.ErrName)
	checkHand(t, f, map[string]string{"b": "one+"})
	checkErr(t, "Rename to a long name", f.Rename("b", of('n', 32)), api.OK)
	checkHand(t, f, map[string]string{of('n', 32): "one+"})
	checkErr(t, "Commit", f.Commit(), api.OK)
	checkHand(t, f, map[string]string{of('n', 32): "one+"})
}

// P4.5
func TestRevert(t *testing.T) {
	f, d := start(t, 40, map[string]string{"a": "one", "b": of('b', 300), "c": ""})
	root, acts := f.Root(), d.Acts()
	change := func() {
		checkErr(t, "Append", f.Append("a", "more"), api.OK)
		checkErr(t, "Rename", f.Rename("b", "c"), api.OK)
		checkErr(t, "Append", f.Append("c", "more"), api.OK)
		checkErr(t, "Create", f.Create("d"), api.OK)
		checkErr(t, "Delete", f.Delete("a"), api.OK)
		checkErr(t, "Create", f.Create("a"), api.OK)
	}
	for range 2 {
		change()
		f.Revert()
		checkHand(t, f, map[string]string{"a": "one", "b": of('b', 300), "c": ""})
		checkRoot(t, "Root", f.Root(), root)
	}
	checkErr(t, "Commit of nothing", f.Commit(), api.OK)
	if d.Acts() != acts {
		t.Errorf("%d acts", d.Acts()-acts)
	}
	change()
	checkErr(t, "Commit", f.Commit(), api.OK)
	f.Revert()
	checkHand(t, f, map[string]string{"a": "", "c": of('b', 300) + "more", "d": ""})
}

// P4.6: what is at hand takes nothing till it's committed, and gives nothing back.
func TestFree(t *testing.T) {
	f, _ := start(t, 50, map[string]string{"a": of('a', 257), "b": of('b', 256)})
	checkFree := func(want int) {
		t.Helper()
		if n := f.Free(); n != want {
			t.Errorf("Free: %d, want %d", n, want)
		}
	}
	checkFree(15)
	checkErr(t, "Append", f.Append("a", of('a', 1000)), api.OK)
	checkFree(15)
	checkErr(t, "Delete", f.Delete("b"), api.OK)
	checkFree(15)
	checkErr(t, "Commit", f.Commit(), api.OK)
	checkFree(13)
	checkErr(t, "Delete", f.Delete("a"), api.OK)
	checkErr(t, "Create", f.Create("a"), api.OK)
	checkFree(13)
	checkErr(t, "Commit", f.Commit(), api.OK)
	checkFree(18)
}

// P4.3 to P4.8: from when the disk is down, or was Crashed, till for ever.
func TestDead(t *testing.T) {
	f, d := start(t, 40, map[string]string{"a": "one"})
	checkErr(t, "Append", f.Append("a", "more"), api.OK)
	d.Arm(1)
	d.Sync()
	checkDead(t, f, api.ErrDead)
	d.Crash(nil, -1, 0)
	checkDead(t, f, api.ErrDead)
	g := open(t, d)
	checkHand(t, g, map[string]string{"a": "one"})
	checkDead(t, f, api.ErrDead)
	d.Crash(nil, -1, 0) // it was not down: what was Opened ahead of it is dead all the same
	checkDead(t, g, api.ErrDead)
	checkDead(t, f, api.ErrDead)
	checkHand(t, open(t, d), map[string]string{"a": "one"})
}

// R1
func TestNoFiles(t *testing.T) {
	checkDead(t, nil, api.ErrArg)
}

// R3: what is answered is new memory, and what is handed in isn't kept.
func TestFilesShareNothing(t *testing.T) {
	f, _ := start(t, 40, map[string]string{"b": of('x', 300)})
	name, data := []byte("a"), []byte("data")
	lent := func(b []byte) string { return unsafe.String(&b[0], len(b)) }
	checkErr(t, "Create", f.Create(lent(name)), api.OK)
	checkErr(t, "Append", f.Append(lent(name), lent(data)), api.OK)
	to := []byte("c")
	checkErr(t, "Rename", f.Rename("b", lent(to)), api.OK)
	name[0], to[0] = 'z', 'z'
	copy(data, "zzzz")
	want := map[string]string{"a": "data", "c": of('x', 300)}
	checkHand(t, f, want)
	checkErr(t, "Commit", f.Commit(), api.OK)

	spoil := func(s string) {
		b := unsafe.Slice(unsafe.StringData(s), len(s))
		for i := range b {
			b[i] = '?'
		}
	}
	names, root := f.Names(), f.Root()
	_ = append(names[:1], "more")
	_ = append(root.Files[0].Blocks[:0], 99)
	spoil(names[0])
	for _, file := range root.Files {
		spoil(file.Name)
		clear(file.Blocks)
	}
	clear(root.Files)
	text, _ := f.Read("c", 0, 300)
	spoil(text)
	checkErr(t, "Append", f.Append("a", "!"), api.OK)
	text, _ = f.Read("a", 4, 1)
	spoil(text)
	want["a"] = "data!"
	checkHand(t, f, want)
	checkRoot(t, "Root", f.Root(), api.Root{Generation: 3, Files: []api.File{{Name: "a", Size: 4, Blocks: []int{34}}, {Name: "c", Size: 300, Blocks: []int{32, 33}}}})
}

// R4: file systems on disks of their own know nothing of one another.
func TestApart(t *testing.T) {
	f, _ := start(t, 40, map[string]string{"a": "one"})
	g, d := start(t, 40, map[string]string{"b": "two"})
	checkErr(t, "Append", f.Append("a", "more"), api.OK)
	d.Crash(nil, -1, 0)
	checkDead(t, g, api.ErrDead)
	checkErr(t, "Commit", f.Commit(), api.OK)
	checkHand(t, f, map[string]string{"a": "onemore"})
	checkHand(t, open(t, d), map[string]string{"b": "two"})
}
