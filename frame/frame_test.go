package frame_test

import (
	"hash/crc32"
	"math/rand"
	"slices"
	"strings"
	"testing"

	"tapestry/api"
	"tapestry/codec"
	"tapestry/frame"
)

// loads are texts at the edges of how many bytes say their length.
func loads() []string {
	long := strings.Repeat("long\x00\xff", api.MaxFrame/6+1)
	l := []string{"", "a", "\x00", "\xff", "\x00\x00\x00\x00", "a\x00\x01\xffb"}
	for _, n := range []int{127, 128, 16383, 16384, api.MaxFrame - 1, api.MaxFrame} {
		l = append(l, long[:n])
	}
	return l
}

// kinds are the least ones, the greatest ones, and those between that have one bit.
func kinds() []uint8 { return []uint8{1, 2, 3, 7, 8, 16, 32, 64, 127, 128, 254, 255} }

// tails are what may stand behind a frame.
func tails() []string {
	return []string{"", "\x00", "\x01", "\xff", "abcdef", "\xaa\xd3\x2d\xdd\x01\x01", strings.Repeat("\x00", 300)}
}

// summed is a frame's sum and what stands behind it, whatever that is, put together without package frame.
func summed(behind string) string {
	n := crc32.ChecksumIEEE([]byte(behind))
	return string([]byte{byte(n), byte(n >> 8), byte(n >> 16), byte(n >> 24)}) + behind
}

func random(r *rand.Rand, most int) string {
	b := make([]byte, r.Intn(most+1))
	for i := range b {
		b[i] = byte(r.Intn(256))
	}
	return string(b)
}

// short is a text's beginning, as much as a failed test may tell.
func short(s string) string { return s[:min(len(s), 16)] }

func put(t *testing.T, kind uint8, load string) string {
	t.Helper()
	s, err := frame.Put(api.Frame{Kind: kind, Load: load})
	if err != api.OK {
		t.Fatalf("Put(%d, %d bytes): %d", kind, len(load), err)
	}
	return s
}

func checkTake(t *testing.T, s string, f api.Frame, n int, err api.Errno) {
	t.Helper()
	if gf, gn, ge := frame.Take(s); gf != f || gn != n || ge != err {
		t.Errorf("Take(% x.., %d bytes): %d % x.. %d %d, want %d % x.. %d %d",
			short(s), len(s), gf.Kind, short(gf.Load), gn, ge, f.Kind, short(f.Load), n, err)
	}
}

func checkRefused(t *testing.T, s string, err api.Errno) {
	t.Helper()
	checkTake(t, s, api.Frame{}, 0, err)
}

type told struct {
	at int
	f  api.Frame
}

func all(s string) []told {
	var l []told
	for at, f := range frame.All(s) {
		l = append(l, told{at, f})
	}
	return l
}

// row is frames one behind the other: their bytes, and what All has to tell of them.
func row(t *testing.T, loads ...string) (string, []told) {
	t.Helper()
	s, l := "", []told(nil)
	for i, load := range loads {
		f := api.Frame{Kind: uint8(1 + i%255), Load: load}
		l = append(l, told{len(s), f})
		s += put(t, f.Kind, f.Load)
	}
	return s, l
}

// checkRow asks whether just these frames stand in bytes, and where they end.
func checkRow(t *testing.T, s string, want []told, end int) {
	t.Helper()
	if got := all(s); !slices.Equal(got, want) {
		t.Errorf("All(% x.., %d bytes): %d frames, want %d", short(s), len(s), len(got), len(want))
	}
	if got := frame.End(s); got != end {
		t.Errorf("End(% x.., %d bytes): %d, want %d", short(s), len(s), got, end)
	}
}

// P2.1
func TestSum(t *testing.T) {
	for _, c := range []struct {
		s   string
		sum uint32
	}{
		{"", 0}, {"123456789", 0xcbf43926}, {"a", 0xe8b7be43}, {"\x00", 0xd202ef8d}, {"\xff", 0xff000000},
		{"\x00\x00\x00\x00", 0x2144df1c}, {"\xff\xff\xff\xff", 0xffffffff}, {"\x01\x01a", 0xdd2dd3aa},
	} {
		if got := frame.Sum(c.s); got != c.sum {
			t.Errorf("Sum(% x): %x, want %x", c.s, got, c.sum)
		}
	}
}

// P2.1
func TestSumOfAllBytes(t *testing.T) {
	r := rand.New(rand.NewSource(1))
	l := loads()
	for c := range 256 {
		l = append(l, string([]byte{byte(c)}), string([]byte{'x', byte(c), 'y'}))
	}
	for range 500 {
		l = append(l, random(r, 100))
	}
	for _, s := range l {
		if got, want := frame.Sum(s), crc32.ChecksumIEEE([]byte(s)); got != want {
			t.Errorf("Sum(% x.., %d bytes): %x, want %x", short(s), len(s), got, want)
		}
	}
}

// P2.2
func TestPut(t *testing.T) {
	for _, c := range []struct {
		kind    uint8
		load, s string
	}{
		{1, "a", "\xaa\xd3\x2d\xdd\x01\x01a"},
		{1, "", summed("\x01\x00")},
		{255, "", summed("\xff\x00")},
		{7, "\x00\xff\x80", summed("\x07\x03\x00\xff\x80")},
		{128, strings.Repeat("x", 127), summed("\x80\x7f" + strings.Repeat("x", 127))},
		{2, strings.Repeat("x", 300), summed("\x02\xac\x02" + strings.Repeat("x", 300))},
		{3, strings.Repeat("x", api.MaxFrame), summed("\x03\x80\x80\x10" + strings.Repeat("x", api.MaxFrame))},
	} {
		if got := put(t, c.kind, c.load); got != c.s {
			t.Errorf("Put(%d, %d bytes): % x.., want % x..", c.kind, len(c.load), short(got), short(c.s))
		}
	}
}

// P2.2: every kind but 0 may be.
func TestPutKinds(t *testing.T) {
	for kind := 1; kind < 256; kind++ {
		s := put(t, uint8(kind), "load")
		if want := summed(string([]byte{byte(kind)}) + "\x04load"); s != want {
			t.Errorf("Put(%d): % x, want % x", kind, s, want)
		}
		checkTake(t, s, api.Frame{Kind: uint8(kind), Load: "load"}, len(s), api.OK)
	}
}

// P2.2
func TestPutRefuses(t *testing.T) {
	long := strings.Repeat("x", api.MaxFrame+1)
	for _, f := range []api.Frame{{}, {Load: "a"}, {Load: long}, {Kind: 1, Load: long}, {Kind: 255, Load: long + long}} {
		if s, err := frame.Put(f); s != "" || err != api.ErrArg {
			t.Errorf("Put(%d, %d bytes): % x.. %d, want nothing and 1", f.Kind, len(f.Load), short(s), err)
		}
	}
}

// P2.3: a frame that is cut off anywhere isn't there yet.
func TestTakeWantsMore(t *testing.T) {
	for _, load := range []string{"", "a", "\x00\x00\x00", strings.Repeat("y", 130)} {
		s := put(t, 9, load)
		for n := range len(s) {
			checkRefused(t, s[:n], api.ErrMore)
		}
	}
	most := put(t, 1, strings.Repeat("x", api.MaxFrame))
	for _, n := range []int{4, 5, 7, 8, 9, len(most) / 2, len(most) - 1} {
		checkRefused(t, most[:n], api.ErrMore)
	}
	checkRefused(t, "\x00\x00\x00\x00", api.ErrMore)
	checkRefused(t, "\xff\xff\xff\xff", api.ErrMore)
	checkRefused(t, "\x00\x00\x00\x00\x01", api.ErrMore)
	checkRefused(t, "\x00\x00\x00\x00\x01\x80", api.ErrMore)
}

// P2.3: a kind that may not be is seen ahead of all behind it.
func TestTakeRefusesKind(t *testing.T) {
	for _, behind := range []string{"", "\x00", "\x01", "\x01a", "\x80", "\x80\x00", "\x81\x80\x10"} {
		checkRefused(t, summed("\x00"+behind), api.ErrForm)
		checkRefused(t, "\xff\xff\xff\xff\x00"+behind, api.ErrForm)
	}
}

// P2.3: whatever the sum is, the load's bytes are asked first.
func TestTakeRefusesLoad(t *testing.T) {
	long := codec.PutUint(api.MaxFrame + 1)
	for _, c := range []struct {
		behind string
		err    api.Errno
	}{
		{"\x80\x00", api.ErrForm}, {"\x81\x00a", api.ErrForm}, {"\x81\x80\x00", api.ErrForm},
		{long, api.ErrForm}, {long + "abc", api.ErrForm}, {long + strings.Repeat("x", api.MaxFrame+1), api.ErrForm},
		{codec.PutUint(1 << 63), api.ErrForm}, {strings.Repeat("\xff", 10), api.ErrForm},
		{strings.Repeat("\xff", 9), api.ErrMore}, {codec.PutUint(api.MaxFrame), api.ErrMore},
		{codec.PutUint(api.MaxFrame) + strings.Repeat("x", api.MaxFrame-1), api.ErrMore},
		{"\x02a", api.ErrMore},
	} {
		checkRefused(t, summed("\x01"+c.behind), c.err)
		checkRefused(t, "\x00\x00\x00\x00\x01"+c.behind, c.err)
	}
}

// P2.3
func TestTakeRefusesSum(t *testing.T) {
	good := "\xaa\xd3\x2d\xdd\x01\x01a"
	checkTake(t, good, api.Frame{Kind: 1, Load: "a"}, 7, api.OK)
	for _, sum := range []string{"\x00\x00\x00\x00", "\xff\xff\xff\xff", "\xdd\x2d\xd3\xaa", "\x55\x2c\xd2\x22", "\x43\xbe\xb7\xe8"} {
		checkRefused(t, sum+good[4:], api.ErrForm)
	}
	for _, behind := range []string{"\x02\x01a", "\x01\x01b", "\x01\x00a"} {
		checkRefused(t, good[:4]+behind, api.ErrForm)
	}
	// The sum goes over the frame's own bytes alone.
	checkRefused(t, summed("\x01\x01ab"), api.ErrForm)
}

// P2.4
func TestAllAndEnd(t *testing.T) {
	s, want := row(t, "a", "", strings.Repeat("x", 500), "\x00\x00", "", "z")
	for _, tail := range tails() {
		checkRow(t, s+tail, want, len(s))
	}
	for _, s := range append(tails(), "\x00\x00\x00\x00", "\x00\x00\x00\x00\x01\x00") {
		checkRow(t, s, nil, 0)
	}
}

// P2.4: no frame is told behind the first one that is none, although it is whole.
func TestAllStops(t *testing.T) {
	s, want := row(t, "first", "second", "third")
	second, third := want[1].at, want[2].at
	for _, spoilt := range []string{
		s[:second] + "\x00" + s[second:],
		s[:second] + summed("\x00\x01a") + s[second:],
		s[:second] + "\xff" + s[second+1:],
		s[:third-1] + s[third:],
	} {
		checkRow(t, spoilt, want[:1], second)
	}
	checkRow(t, "\x00"+s, nil, 0)
	for n := range len(s) {
		whole, end := 0, 0
		for i, next := range []int{second, third} {
			if n >= next {
				whole, end = i+1, next
			}
		}
		checkRow(t, s[:n], want[:whole], end)
	}
}

// P2.4
func TestAllIsLeftEarlyAndRangedAgain(t *testing.T) {
	s, want := row(t, "a", "bc", "", "d")
	frames := frame.All(s + "\x00")
	for leave := 1; leave <= len(want); leave++ {
		var got []told
		for at, f := range frames {
			got = append(got, told{at, f})
			if len(got) == leave {
				break
			}
		}
		if !slices.Equal(got, want[:leave]) {
			t.Errorf("left behind %d frames: %v, want %v", leave, got, want[:leave])
		}
	}
	n := 0
	for at := range frames {
		inner := 0
		for range frames {
			inner++
		}
		if at != want[n].at || inner != len(want) {
			t.Errorf("frame %d at %d, %d frames within, want %d and %d", n, at, inner, want[n].at, len(want))
		}
		n++
	}
	if n != len(want) {
		t.Errorf("%d frames, want %d", n, len(want))
	}
}

// P2.5
func TestWhatWasPutIsTaken(t *testing.T) {
	for _, load := range loads() {
		for _, kind := range kinds() {
			s := put(t, kind, load)
			for _, tail := range tails() {
				checkTake(t, s+tail, api.Frame{Kind: kind, Load: load}, len(s), api.OK)
			}
			if len(load) > 1000 {
				break // one kind is enough for a long one
			}
		}
	}
}

// P2.5: each bit but those of the load's length.
func TestTurnedBits(t *testing.T) {
	const kindEnd = 5
	for _, load := range []string{"", "a", "\x00\xff\x80\x01", strings.Repeat("z", 200)} {
		for _, kind := range kinds() {
			s := put(t, kind, load)
			for i := range len(s) {
				if i >= kindEnd && i < len(s)-len(load) {
					continue
				}
				for bit := range 8 {
					turned := s[:i] + string([]byte{s[i] ^ 1<<bit}) + s[i+1:]
					for _, tail := range []string{"", "\x00", s} {
						checkRefused(t, turned+tail, api.ErrForm)
					}
				}
			}
		}
	}
}

// P2.5: of any bytes, those of frames with others between them.
func TestAllPutAgain(t *testing.T) {
	r := rand.New(rand.NewSource(2))
	found := 0
	for range 3000 {
		var s string
		for range r.Intn(6) {
			s += put(t, uint8(1+r.Intn(255)), random(r, 150))
		}
		switch r.Intn(3) {
		case 0:
			s = s[:r.Intn(len(s)+1)] + random(r, 9)
		case 1:
			at := r.Intn(len(s) + 1)
			s = s[:at] + random(r, 1) + s[at:]
		}
		again := ""
		for at, f := range frame.All(s) {
			if at != len(again) {
				t.Errorf("a frame at %d, want %d", at, len(again))
			}
			again += put(t, f.Kind, f.Load)
			found++
		}
		end := frame.End(s)
		if again != s[:end] {
			t.Errorf("put again: %d bytes, End %d", len(again), end)
		}
		if _, n, err := frame.Take(s[end:]); err == api.OK || n != 0 {
			t.Errorf("at End %d of % x.. a frame of %d bytes is left", end, short(s), n)
		}
	}
	if found == 0 {
		t.Error("no frame was found at all")
	}
}

// R4: what stands ahead and what was asked before change nothing.
func TestTakeIsItsArgumentsAlone(t *testing.T) {
	s, want := row(t, "one", "two")
	for range 2 {
		checkTake(t, s[want[1].at:], want[1].f, len(s)-want[1].at, api.OK)
		checkRefused(t, s[1:], api.ErrMore)
		checkRow(t, s, want, len(s))
	}
}
