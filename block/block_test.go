package block_test

import (
	"math"
	"slices"
	"strings"
	"testing"
	"unsafe"

	"tapestry/api"
	"tapestry/block"
)

// of is a block of one byte alone.
func of(c byte) string { return strings.Repeat(string([]byte{c}), api.BlockSize) }

// torn is a block of which the first n bytes are c's, all others those of was.
func torn(c byte, n int, was string) string { return of(c)[:n] + was[n:] }

func disk(t *testing.T, blocks int) *block.Dev {
	t.Helper()
	d, err := block.New(blocks)
	if d == nil || err != api.OK {
		t.Fatalf("New(%d): %v %d", blocks, d, err)
	}
	return d
}

func checkErr(t *testing.T, what string, got, want api.Errno) {
	t.Helper()
	if got != want {
		t.Errorf("%s: %d, want %d", what, got, want)
	}
}

// short is a block as a failed test may tell it.
func short(s string) string {
	if s == "" {
		return "nothing"
	}
	first, n := s[0], 0
	for n < len(s) && s[n] == first {
		n++
	}
	if n == len(s) {
		return string("0123456789abcdef"[first>>4]) + string("0123456789abcdef"[first&15]) + "'s"
	}
	return short(s[:n]) + ", then " + short(s[n:])
}

func checkRead(t *testing.T, d *block.Dev, i int, want string, err api.Errno) {
	t.Helper()
	if got, ge := d.Read(i); got != want || ge != err {
		t.Errorf("Read(%d): %s %d, want %s %d", i, short(got), ge, short(want), err)
	}
}

// state is what a disk tells without its blocks.
type state struct {
	up          bool
	acts, epoch int
}

func checkState(t *testing.T, d *block.Dev, want state, pending ...int) {
	t.Helper()
	if got := (state{d.Up(), d.Acts(), d.Epoch()}); got != want {
		t.Errorf("up, acts, epoch: %v, want %v", got, want)
	}
	if got := d.Pending(); !slices.Equal(got, pending) {
		t.Errorf("Pending: %v, want %v", got, pending)
	}
}

// noBlocks are numbers that are none of a disk's blocks.
func noBlocks(d *block.Dev) []int {
	return []int{d.Blocks(), d.Blocks() + 1, -1, -d.Blocks(), math.MaxInt, math.MinInt}
}

// noData are texts that are no block's bytes.
func noData() []string {
	return []string{"", "a", of('a')[1:], of('a') + "a", of('a') + of('a')}
}

// P3.1
func TestNewRefuses(t *testing.T) {
	for _, blocks := range []int{0, 1, -1, -40, api.MinBlocks - 1, api.MaxBlocks + 1, 1 << 20, math.MaxInt, math.MinInt} {
		if d, err := block.New(blocks); d != nil || err != api.ErrArg {
			t.Errorf("New(%d): %v %d, want nil %d", blocks, d, err, api.ErrArg)
		}
	}
}

// P3.1
func TestNew(t *testing.T) {
	for _, blocks := range []int{api.MinBlocks, api.MinBlocks + 1, 1000, api.MaxBlocks - 1, api.MaxBlocks} {
		d := disk(t, blocks)
		if got := d.Blocks(); got != blocks {
			t.Errorf("Blocks: %d, want %d", got, blocks)
		}
		for i := range blocks {
			checkRead(t, d, i, of(0), api.OK)
		}
		checkState(t, d, state{up: true})
		for range 50 { // it is not armed: no act takes the power
			checkErr(t, "Write", d.Write(blocks-1, of('a')), api.OK)
			checkErr(t, "Sync", d.Sync(), api.OK)
		}
		checkState(t, d, state{true, 100, 0})
	}
}

// P3.2
func TestRead(t *testing.T) {
	d := disk(t, 40)
	for _, i := range []int{0, 1, 38, 39} {
		checkErr(t, "Write", d.Write(i, of(byte('a'+i))), api.OK)
		checkRead(t, d, i, of(byte('a'+i)), api.OK)
	}
	checkErr(t, "Write", d.Write(1, of('x')), api.OK)
	checkErr(t, "Write", d.Write(0, of('y')), api.OK)
	checkErr(t, "Write", d.Write(1, of('z')), api.OK)
	for i, want := range map[int]string{0: of('y'), 1: of('z'), 2: of(0), 38: of('a' + 38), 39: of('a' + 39)} {
		checkRead(t, d, i, want, api.OK)
	}
	for _, i := range noBlocks(d) {
		checkRead(t, d, i, "", api.ErrArg)
	}
	d.Arm(1)
	d.Sync()
	for _, i := range append(noBlocks(d), 0, 1, 2, 39) {
		checkRead(t, d, i, "", api.ErrDead)
	}
}

// P3.2: just the last pending write is read, of the block alone that it is of; once it's safe, that one; and any bytes are a block's.
func TestReadTellsBytesAsTheyAre(t *testing.T) {
	d := disk(t, 40)
	var b [api.BlockSize]byte
	for i := range b {
		b[i] = byte(i)
	}
	checkErr(t, "Write", d.Write(7, string(b[:])), api.OK)
	checkRead(t, d, 7, string(b[:]), api.OK)
	checkErr(t, "Sync", d.Sync(), api.OK)
	checkRead(t, d, 7, string(b[:]), api.OK)
	checkErr(t, "Write", d.Write(7, of(0)), api.OK)
	checkRead(t, d, 7, of(0), api.OK)
	d.Crash(nil, -1, 0)
	checkRead(t, d, 7, string(b[:]), api.OK)
}

// P3.3, P3.6
func TestWrite(t *testing.T) {
	d := disk(t, 40)
	var want []int
	for n, i := range []int{3, 0, 3, 39, 3, 0, 5} {
		checkErr(t, "Write", d.Write(i, of(byte('a'+n))), api.OK)
		want = append(want, i)
		checkState(t, d, state{true, n + 1, 0}, want...)
	}
	for i, want := range map[int]string{0: of('f'), 3: of('e'), 5: of('g'), 39: of('d'), 4: of(0)} {
		checkRead(t, d, i, want, api.OK)
	}
}

// P3.3: what is answered by ErrArg is no act: it isn't counted, it changes nothing, and the power doesn't go in it.
func TestWriteRefuses(t *testing.T) {
	d := disk(t, 40)
	checkErr(t, "Write", d.Write(3, of('a')), api.OK)
	d.Arm(1)
	for _, i := range noBlocks(d) {
		checkErr(t, "Write of no block", d.Write(i, of('b')), api.ErrArg)
		checkErr(t, "Write of no block, of no bytes", d.Write(i, ""), api.ErrArg)
	}
	for _, s := range noData() {
		checkErr(t, "Write of other bytes", d.Write(3, s), api.ErrArg)
	}
	checkState(t, d, state{true, 1, 0}, 3)
	checkRead(t, d, 3, of('a'), api.OK)
	checkErr(t, "Write, armed with 1", d.Write(4, of('b')), api.ErrDead)
	for _, i := range append(noBlocks(d), 3) { // that it is down is asked ahead of all else
		for _, s := range append(noData(), of('b')) {
			checkErr(t, "Write without power", d.Write(i, s), api.ErrDead)
		}
	}
	checkErr(t, "Sync without power", d.Sync(), api.ErrDead)
	checkState(t, d, state{false, 2, 0}, 3, 4)
}

// P3.3
func TestSync(t *testing.T) {
	d := disk(t, 40)
	checkErr(t, "Sync of nothing", d.Sync(), api.OK)
	checkState(t, d, state{true, 1, 0})
	d.Write(3, of('a'))
	d.Write(4, of('b'))
	d.Write(3, of('c'))
	checkErr(t, "Sync", d.Sync(), api.OK)
	checkState(t, d, state{true, 5, 0})
	d.Write(4, of('d'))
	d.Crash(nil, -1, 0)
	for i, want := range map[int]string{3: of('c'), 4: of('b'), 5: of(0)} { // in their order: the last one of a block is what is left
		checkRead(t, d, i, want, api.OK)
	}
	checkState(t, d, state{true, 6, 1})
}

// P3.4: armed with n, the power goes in the act number n, be it a Write or a Sync, whatever acts are made ahead of it.
func TestArm(t *testing.T) {
	for n := 1; n <= 8; n++ {
		for syncs := range 1 << n { // the bit k: the act k is a Sync
			d := disk(t, 40)
			d.Arm(n)
			var pending []int
			for k := range n {
				sync := syncs>>k&1 == 1
				want := api.OK
				if k == n-1 {
					want = api.ErrDead
				}
				if sync {
					checkErr(t, "Sync", d.Sync(), want)
				} else {
					checkErr(t, "Write", d.Write(k, of('a')), want)
					pending = append(pending, k)
				}
				if sync && want == api.OK {
					pending = nil
				}
				checkState(t, d, state{want == api.OK, k + 1, 0}, pending...)
			}
		}
	}
}

// P3.4: a Write in which the power goes is pending, and may be kept or torn like all others; a Sync is not done.
func TestPowerGoesInAnAct(t *testing.T) {
	d := disk(t, 40)
	d.Write(3, of('a'))
	d.Sync()
	for _, c := range []struct {
		keep  []bool
		torn  int
		three string
		four  string
	}{
		{nil, -1, of('a'), of(0)}, {[]bool{true}, -1, of('b'), of(0)}, {[]bool{false, true}, -1, of('b'), of('c')},
		{nil, 1, of('b'), torn('c', 5, of('c'))}, {[]bool{true, true}, -1, of('b'), of('c')},
	} {
		d.Write(3, of('b'))
		d.Arm(1)
		checkErr(t, "Write, armed with 1", d.Write(4, of('c')), api.ErrDead)
		d.Crash(c.keep, c.torn, 5)
		checkRead(t, d, 3, c.three, api.OK)
		checkRead(t, d, 4, c.four, api.OK)
	}
	d.Write(5, of('d'))
	d.Arm(1)
	checkErr(t, "Sync, armed with 1", d.Sync(), api.ErrDead)
	d.Crash(nil, -1, 0)
	checkRead(t, d, 5, of(0), api.OK)
}

// P3.4: the last Arm alone counts; 0 and below: it is not armed.
func TestArmAgain(t *testing.T) {
	d := disk(t, 40)
	for _, n := range []int{0, -1, -2, math.MinInt, math.MaxInt} {
		d.Arm(1)
		d.Arm(n)
		for range 10 {
			checkErr(t, "Sync", d.Sync(), api.OK)
		}
	}
	d.Arm(5)
	d.Sync()
	d.Arm(2)
	checkErr(t, "Sync, armed with 2", d.Sync(), api.OK)
	d.Arm(2) // not what was left, and that
	checkErr(t, "Sync, armed with 2 again", d.Sync(), api.OK)
	checkErr(t, "Sync, armed with 1", d.Sync(), api.ErrDead)
	checkState(t, d, state{false, 54, 0})
}

// P3.4, P3.5: behind a loss of power, and behind any Crash, it is not armed.
func TestCrashDisarms(t *testing.T) {
	d := disk(t, 40)
	armed := []func(){
		func() { d.Arm(1); d.Sync() },
		func() { d.Arm(1); d.Sync(); d.Arm(3) },
		func() { d.Arm(3) },
		func() { d.Arm(2); d.Sync() },
		func() {},
	}
	for k, arm := range armed {
		arm()
		d.Crash(nil, -1, 0)
		for range 10 {
			checkErr(t, "Write", d.Write(3, of('a')), api.OK)
			checkErr(t, "Sync", d.Sync(), api.OK)
		}
		if d.Epoch() != k+1 || !d.Up() {
			t.Errorf("Epoch: %d, Up: %v, want %d, true", d.Epoch(), d.Up(), k+1)
		}
	}
}

// P3.5: which writes are kept, of writes of one block twice, and of another.
func TestCrashKeeps(t *testing.T) {
	for _, c := range []struct {
		keep      []bool
		torn, n   int
		three, at string // block 3 was a's, and becomes b's, then d's; block 4 was noughts, and becomes c's in between
	}{
		{nil, -1, 9, of('a'), of(0)},
		{[]bool{}, 3, 9, of('a'), of(0)},
		{[]bool{false, false, false, true}, math.MaxInt, 9, of('a'), of(0)},
		{[]bool{true}, math.MinInt, 9, of('b'), of(0)},
		{[]bool{false, true}, -1, 9, of('a'), of('c')},
		{[]bool{false, false, true}, -1, 9, of('d'), of(0)},
		{[]bool{true, false, true}, -1, 9, of('d'), of(0)},
		{[]bool{true, true, false, true, true}, 4, 9, of('b'), of('c')},
		{nil, 0, 9, torn('b', 9, of('a')), of(0)},
		{nil, 1, 9, of('a'), torn('c', 9, of(0))},
		{nil, 2, 9, torn('d', 9, of('a')), of(0)},
		{[]bool{true, true, true}, 0, 9, of('d'), of('c')},
		{[]bool{true, true, true}, 1, 9, of('d'), torn('c', 9, of(0))},
		{[]bool{true, true, true}, 2, 9, torn('d', 9, of('b')), of('c')},
		{[]bool{true, true, false}, 0, 9, torn('b', 9, of('a')), of('c')},
		{[]bool{true}, 0, 0, of('a'), of(0)},
		{[]bool{true}, 0, -1, of('a'), of(0)},
		{[]bool{true}, 0, math.MinInt, of('a'), of(0)},
		{nil, 0, 1, torn('b', 1, of('a')), of(0)},
		{nil, 0, 255, torn('b', 255, of('a')), of(0)},
		{nil, 0, 256, of('b'), of(0)},
		{nil, 0, 257, of('b'), of(0)},
		{nil, 0, math.MaxInt, of('b'), of(0)},
	} {
		for _, down := range []bool{false, true} {
			d := disk(t, 40)
			d.Write(3, of('a'))
			d.Sync()
			for k, i := range []int{3, 4, 3} {
				d.Write(i, of(byte('b'+k)))
			}
			acts := 5
			if down {
				d.Arm(1)
				d.Sync()
				acts++
			}
			kept := slices.Clone(c.keep)
			d.Crash(c.keep, c.torn, c.n)
			if !slices.Equal(kept, c.keep) {
				t.Errorf("Crash wrote into keep: %v, was %v", c.keep, kept)
			}
			checkRead(t, d, 3, c.three, api.OK)
			checkRead(t, d, 4, c.at, api.OK)
			checkRead(t, d, 5, of(0), api.OK)
			checkState(t, d, state{true, acts, 1})
			d.Crash([]bool{true, true, true}, 0, 9) // what was lost stays so, what was kept is safe
			checkRead(t, d, 3, c.three, api.OK)
			checkRead(t, d, 4, c.at, api.OK)
		}
	}
}

// P3.6: what it tells without power, too.
func TestLooksWithoutPower(t *testing.T) {
	d := disk(t, 41)
	d.Write(9, of('a'))
	d.Arm(2)
	d.Write(8, of('b'))
	d.Write(9, of('c'))
	checkState(t, d, state{false, 3, 0}, 9, 8, 9)
	if got := d.Blocks(); got != 41 {
		t.Errorf("Blocks: %d, want 41", got)
	}
	d.Crash(nil, -1, 0)
	d.Crash(nil, -1, 0)
	checkState(t, d, state{true, 3, 2})
}

// R1
func TestNoDisk(t *testing.T) {
	var d *block.Dev
	d.Arm(1)
	d.Crash([]bool{true}, 0, 1)
	checkRead(t, d, 0, "", api.ErrArg)
	checkErr(t, "Write", d.Write(0, of('a')), api.ErrArg)
	checkErr(t, "Sync", d.Sync(), api.ErrArg)
	checkState(t, d, state{})
	if got := d.Blocks(); got != 0 {
		t.Errorf("Blocks: %d, want 0", got)
	}
}

// spoil writes into a text's own memory: whoever shares it sees that.
func spoil(s string) {
	b := unsafe.Slice(unsafe.StringData(s), len(s))
	for i := range b {
		b[i] = '!'
	}
}

// lent is a text in memory that may be spoiled.
func lent(s string) string {
	b := []byte(s)
	return unsafe.String(unsafe.SliceData(b), len(b))
}

// R3: what is handed in isn't kept, and what comes out is new memory, of blocks never written, pending, safe and torn.
func TestMemoryIsNotShared(t *testing.T) {
	d := disk(t, 40)
	look := func(want map[int]string) {
		t.Helper()
		for range 2 {
			for i, s := range want {
				checkRead(t, d, i, s, api.OK)
				got, _ := d.Read(i)
				spoil(got)
			}
		}
	}
	look(map[int]string{0: of(0), 1: of(0)})
	a, b := lent(of('a')), lent(of('b'))
	d.Write(3, a)
	d.Write(4, b)
	spoil(a)
	spoil(b)
	look(map[int]string{3: of('a'), 4: of('b'), 5: of(0)})
	d.Crash([]bool{true}, 1, 7)
	look(map[int]string{3: of('a'), 4: torn('b', 7, of(0)), 5: of(0)})
	c := lent(of('c'))
	d.Write(5, c)
	d.Sync()
	spoil(c)
	look(map[int]string{3: of('a'), 4: torn('b', 7, of(0)), 5: of('c'), 6: of(0)})
}

// R3: the list of pending writes is new each time, its spare room too.
func TestPendingIsNotShared(t *testing.T) {
	d := disk(t, 40)
	for _, i := range []int{3, 4, 5} {
		d.Write(i, of('a'))
	}
	one, two := d.Pending(), d.Pending()
	for k := range one {
		one[k] = 99
	}
	_ = append(one[:0], 98, 97, 96, 95)
	d.Write(6, of('a'))
	if !slices.Equal(two, []int{3, 4, 5}) {
		t.Errorf("Pending, as it was told earlier: %v", two)
	}
	checkState(t, d, state{true, 4, 0}, 3, 4, 5, 6)
}

// R3: keep is not kept: what becomes of it behind a Crash is of no account.
func TestKeepIsNotKept(t *testing.T) {
	d := disk(t, 40)
	keep := []bool{true, false}
	d.Write(3, of('a'))
	d.Write(4, of('b'))
	d.Crash(keep, -1, 0)
	keep[0], keep[1] = false, true
	checkRead(t, d, 3, of('a'), api.OK)
	checkRead(t, d, 4, of(0), api.OK)
}

// R4: disks know nothing of one another.
func TestDisksAreApart(t *testing.T) {
	a, b := disk(t, 40), disk(t, 40)
	a.Write(3, of('a'))
	a.Sync()
	a.Write(4, of('b'))
	a.Arm(1)
	a.Sync()
	checkRead(t, b, 3, of(0), api.OK)
	checkRead(t, b, 4, of(0), api.OK)
	checkState(t, b, state{up: true})
	b.Write(5, of('c'))
	b.Crash(nil, -1, 0)
	checkState(t, a, state{false, 4, 0}, 4)
}
