package codec_test

import (
	"math"
	"math/big"
	"math/rand"
	"strings"
	"testing"
	"unsafe"

	"tapestry/api"
	"tapestry/codec"
)

// uints are numbers at the edges of what each count of bytes bears.
func uints() []uint64 {
	l := []uint64{0, 1, 2, 300, math.MaxUint64}
	for shift := 7; shift < 64; shift += 7 {
		l = append(l, 1<<shift-1, 1<<shift, 1<<shift+1)
	}
	return l
}

// ints are numbers of both signs at the same edges.
func ints() []int64 {
	l := []int64{math.MinInt64, math.MinInt64 + 1, math.MaxInt64}
	for _, u := range uints() {
		l = append(l, int64(u), -int64(u), int64(u>>1), -int64(u>>1)-1)
	}
	return l
}

// texts are all texts of these bytes, of so many bytes at most.
func texts(bytes string, most int) []string {
	l, last := []string{""}, []string{""}
	for range most {
		var next []string
		for _, s := range last {
			for i := range len(bytes) {
				next = append(next, s+bytes[i:i+1])
			}
		}
		l, last = append(l, next...), next
	}
	return l
}

func random(r *rand.Rand, most int) string {
	b := make([]byte, r.Intn(most+1))
	for i := range b {
		b[i] = byte(r.Intn(256))
		if r.Intn(3) == 0 { // the bytes that mean something
			b[i] = "\x00\x01\x7f\x80\xfe\xff"[r.Intn(6)]
		}
	}
	return string(b)
}

// tails are what may stand behind what is taken.
func tails() []string { return []string{"", "\x00", "\x01", "\x80", "\xff", "abc"} }

func checkUint(t *testing.T, s string, n uint64, k int, err api.Errno) {
	t.Helper()
	if gn, gk, ge := codec.TakeUint(s); gn != n || gk != k || ge != err {
		t.Errorf("TakeUint(% x): %d %d %d, want %d %d %d", s, gn, gk, ge, n, k, err)
	}
}

func checkInt(t *testing.T, s string, n int64, k int, err api.Errno) {
	t.Helper()
	if gn, gk, ge := codec.TakeInt(s); gn != n || gk != k || ge != err {
		t.Errorf("TakeInt(% x): %d %d %d, want %d %d %d", s, gn, gk, ge, n, k, err)
	}
}

func checkText(t *testing.T, s string, most int, text string, k int, err api.Errno) {
	t.Helper()
	if gt, gk, ge := codec.TakeText(s, most); gt != text || gk != k || ge != err {
		t.Errorf("TakeText(% x, %d): % x %d %d, want % x %d %d", s, most, gt, gk, ge, text, k, err)
	}
}

func checkBytes(t *testing.T, what, got, want string) {
	t.Helper()
	if got != want {
		t.Errorf("%s: % x, want % x", what, got, want)
	}
}

// P1.1
func TestPutUint(t *testing.T) {
	nines := strings.Repeat("\xff", 9)
	for _, c := range []struct {
		n uint64
		s string
	}{
		{0, "\x00"}, {1, "\x01"}, {127, "\x7f"}, {128, "\x80\x01"}, {300, "\xac\x02"},
		{16383, "\xff\x7f"}, {16384, "\x80\x80\x01"}, {1<<21 - 1, "\xff\xff\x7f"},
		{1<<63 - 1, nines[:8] + "\x7f"}, {1 << 63, strings.Repeat("\x80", 9) + "\x01"},
		{math.MaxUint64, nines + "\x01"},
	} {
		checkBytes(t, "PutUint", codec.PutUint(c.n), c.s)
	}
}

// P1.1
func TestTakeUintReadsWhatWasPut(t *testing.T) {
	for _, n := range uints() {
		s := codec.PutUint(n)
		for _, tail := range tails() {
			checkUint(t, s+tail, n, len(s), api.OK)
		}
		for k := range len(s) {
			checkUint(t, s[:k], 0, 0, api.ErrMore)
		}
	}
}

// P1.1
func TestTakeUintRefuses(t *testing.T) {
	for _, fill := range []string{"\x80", "\x81", "\xff"} {
		nine := strings.Repeat(fill, 9)
		for c := 2; c < 256; c++ {
			tenth := string([]byte{byte(c)})
			checkUint(t, nine+tenth, 0, 0, api.ErrForm)
			checkUint(t, nine+tenth+"\x01", 0, 0, api.ErrForm)
		}
		for k := 1; k <= 9; k++ {
			checkUint(t, nine[:k], 0, 0, api.ErrMore)
			checkUint(t, nine[:k]+"\x00", 0, 0, api.ErrForm)
			checkUint(t, nine[:k]+"\x00\x01", 0, 0, api.ErrForm)
		}
	}
	checkUint(t, "", 0, 0, api.ErrMore)
}

// P1.1: one row of bytes stands for a number, no other one: what is taken is just what PutUint writes, what ends too soon may still become that, and what is refused may not.
func TestTakeUintTakesNothingElse(t *testing.T) {
	for _, s := range texts("\x00\x01\x02\x7f\x80\x81\xff", 4) {
		n, k, err := codec.TakeUint(s)
		switch err {
		case api.OK:
			checkBytes(t, "put again", codec.PutUint(n), s[:k])
		case api.ErrMore:
			if _, k, err := codec.TakeUint(s + "\x01"); err != api.OK || k != len(s)+1 {
				t.Errorf("TakeUint(% x): ErrMore, but % x 01: %d %d", s, s, k, err)
			}
		default:
			for _, tail := range tails() {
				checkUint(t, s+tail, 0, 0, api.ErrForm)
			}
		}
	}
}

// P1.2
func TestPutInt(t *testing.T) {
	nines := strings.Repeat("\xff", 9)
	for _, c := range []struct {
		n int64
		s string
	}{
		{0, "\x00"}, {-1, "\x01"}, {1, "\x02"}, {-2, "\x03"}, {63, "\x7e"}, {-64, "\x7f"}, {64, "\x80\x01"}, {-65, "\x81\x01"},
		{math.MaxInt64, "\xfe" + nines[1:] + "\x01"}, {math.MinInt64, nines + "\x01"},
	} {
		checkBytes(t, "PutInt", codec.PutInt(c.n), c.s)
	}
}

// P1.2
func TestTakeInt(t *testing.T) {
	for _, n := range ints() {
		s := codec.PutInt(n)
		for _, tail := range tails() {
			checkInt(t, s+tail, n, len(s), api.OK)
		}
		for k := range len(s) {
			checkInt(t, s[:k], 0, 0, api.ErrMore)
		}
	}
	checkInt(t, "\x80\x00", 0, 0, api.ErrForm)
	checkInt(t, "\x81\x00", 0, 0, api.ErrForm)
	checkInt(t, strings.Repeat("\xff", 9)+"\x02", 0, 0, api.ErrForm)
	checkInt(t, strings.Repeat("\xff", 10), 0, 0, api.ErrForm)
}

// P1.3
func TestPutText(t *testing.T) {
	long := strings.Repeat("x", 300)
	for _, c := range []struct{ text, s string }{
		{"", "\x00"}, {"ab", "\x02ab"}, {"\x00\xff\x80", "\x03\x00\xff\x80"},
		{long[:127], "\x7f" + long[:127]}, {long[:128], "\x80\x01" + long[:128]}, {long, "\xac\x02" + long},
	} {
		checkBytes(t, "PutText", codec.PutText(c.text), c.s)
		for _, tail := range tails() {
			for _, most := range []int{len(c.text), len(c.text) + 1, math.MaxInt} {
				checkText(t, c.s+tail, most, c.text, len(c.s), api.OK)
			}
			if c.text != "" {
				checkText(t, c.s+tail, len(c.text)-1, "", 0, api.ErrForm)
			}
		}
		for k := range len(c.s) {
			checkText(t, c.s[:k], math.MaxInt, "", 0, api.ErrMore)
		}
	}
}

// P1.3
func TestTakeTextLimits(t *testing.T) {
	for _, most := range []int{0, -1, math.MinInt} {
		checkText(t, "\x00ab", most, "", 1, api.OK)
		checkText(t, "\x01ab", most, "", 0, api.ErrForm)
		checkText(t, "\x01", most, "", 0, api.ErrForm)
		checkText(t, "", most, "", 0, api.ErrMore)
		checkText(t, "\x81", most, "", 0, api.ErrMore)
	}
	checkText(t, "\x03ab", 2, "", 0, api.ErrForm)
	checkText(t, "\x03ab", 3, "", 0, api.ErrMore)
	checkText(t, "\x82\x00ab", 9, "", 0, api.ErrForm)
	most := codec.PutUint(math.MaxInt)
	checkText(t, most+"ab", math.MaxInt, "", 0, api.ErrMore)
	checkText(t, most+"ab", math.MaxInt-1, "", 0, api.ErrForm)
	checkText(t, codec.PutUint(math.MaxInt+1)+"ab", math.MaxInt, "", 0, api.ErrForm)
	checkText(t, codec.PutUint(math.MaxUint64)+"ab", math.MaxInt, "", 0, api.ErrForm)
	checkText(t, codec.PutUint(math.MaxUint64)+"ab", -1, "", 0, api.ErrForm)
}

// P1.4
func TestKeyInt(t *testing.T) {
	for _, c := range []struct {
		n int64
		s string
	}{
		{0, "\x80\x00\x00\x00\x00\x00\x00\x00"}, {1, "\x80\x00\x00\x00\x00\x00\x00\x01"},
		{-1, "\x7f\xff\xff\xff\xff\xff\xff\xff"}, {-2, "\x7f\xff\xff\xff\xff\xff\xff\xfe"},
		{0x0102030405060708, "\x81\x02\x03\x04\x05\x06\x07\x08"},
		{math.MaxInt64, "\xff\xff\xff\xff\xff\xff\xff\xff"}, {math.MinInt64, "\x00\x00\x00\x00\x00\x00\x00\x00"},
	} {
		checkBytes(t, "KeyInt", codec.KeyInt(c.n), c.s)
		for _, tail := range tails() {
			if n, k, err := codec.TakeKeyInt(c.s + tail); n != c.n || k != 8 || err != api.OK {
				t.Errorf("TakeKeyInt(% x): %d %d %d, want %d 8 0", c.s+tail, n, k, err, c.n)
			}
		}
		for i := range len(c.s) {
			if n, k, err := codec.TakeKeyInt(c.s[:i]); n != 0 || k != 0 || err != api.ErrMore {
				t.Errorf("TakeKeyInt(% x): %d %d %d, want 0 0 2", c.s[:i], n, k, err)
			}
		}
	}
}

// P1.4: any eight bytes are a number's.
func TestTakeKeyIntTakesAll(t *testing.T) {
	r := rand.New(rand.NewSource(1))
	for range 2000 {
		s := random(r, 8)
		s += strings.Repeat("\x00", 8-len(s))
		n, k, err := codec.TakeKeyInt(s)
		if k != 8 || err != api.OK || codec.KeyInt(n) != s {
			t.Errorf("TakeKeyInt(% x): %d %d %d", s, n, k, err)
		}
	}
}

func checkKeyText(t *testing.T, s, text string, k int, err api.Errno) {
	t.Helper()
	if gt, gk, ge := codec.TakeKeyText(s); gt != text || gk != k || ge != err {
		t.Errorf("TakeKeyText(% x): % x %d %d, want % x %d %d", s, gt, gk, ge, text, k, err)
	}
}

// P1.5
func TestKeyText(t *testing.T) {
	for _, c := range []struct{ text, s string }{
		{"", "\x00\x01"}, {"ab", "ab\x00\x01"}, {"a\x00", "a\x00\xff\x00\x01"}, {"\x00", "\x00\xff\x00\x01"},
		{"\x00\x00b", "\x00\xff\x00\xffb\x00\x01"}, {"\x00\x01", "\x00\xff\x01\x00\x01"}, {"\x00\xff", "\x00\xff\xff\x00\x01"},
		{"\xff\x01", "\xff\x01\x00\x01"},
	} {
		checkBytes(t, "KeyText", codec.KeyText(c.text), c.s)
	}
	for _, text := range texts("\x00\x01\x02a\xff", 4) {
		s := codec.KeyText(text)
		for _, tail := range tails() {
			checkKeyText(t, s+tail, text, len(s), api.OK)
		}
		for k := range len(s) {
			checkKeyText(t, s[:k], "", 0, api.ErrMore)
		}
	}
}

// P1.5
func TestTakeKeyTextRefuses(t *testing.T) {
	for _, s := range []string{"", "a", "a\x00", "a\x00\xff", "\x00", "\x00\xff", "\x00\xff\x00"} {
		checkKeyText(t, s, "", 0, api.ErrMore)
	}
	for c := range 256 {
		if c == 0x01 || c == 0xff {
			continue
		}
		for _, start := range []string{"\x00", "a\x00", "\x00\xff\x00", "ab\x00\xffc\x00"} {
			s := start + string([]byte{byte(c)})
			checkKeyText(t, s, "", 0, api.ErrForm)
			checkKeyText(t, s+"\x00\x01", "", 0, api.ErrForm)
		}
	}
}

// P1.6
func TestCommon(t *testing.T) {
	for _, c := range []struct {
		a, b string
		n    int
	}{
		{"", "", 0}, {"", "a", 0}, {"a", "b", 0}, {"abc", "abd", 2}, {"ab", "abd", 2}, {"abc", "abc", 3},
		{"a\x00", "a\x00\x00", 2}, {"xbc", "abc", 0}, {"\xc3\xa4", "\xc3\xa5", 1},
	} {
		if n, m := codec.Common(c.a, c.b), codec.Common(c.b, c.a); n != c.n || m != c.n {
			t.Errorf("Common(%q, %q): %d, turned round %d, want %d", c.a, c.b, n, m, c.n)
		}
	}
}

// P1.6
func TestBehind(t *testing.T) {
	for _, c := range []struct{ s, want string }{
		{"", ""}, {"a", "b"}, {"ab", "ac"}, {"\x00", "\x01"}, {"a\x00", "a\x01"}, {"\xff", ""}, {"\xff\xff\xff", ""},
		{"a\xff", "b"}, {"a\xff\xff", "b"}, {"\xff\xfe", "\xff\xff"}, {"a\xffb", "a\xffc"}, {"\xffa\xff", "\xffb"}, {"\x7f", "\x80"},
	} {
		checkBytes(t, "Behind", codec.Behind(c.s), c.want)
	}
}

// P1.6: of all short texts just those from Behind(s) on are above s and all texts that begin with s.
func TestBehindIsTheLeast(t *testing.T) {
	all := texts("\x00\x01\xfe\xff", 4)
	long := strings.Repeat("\xff", 6) // nothing short that begins with s is above s and this
	for _, s := range texts("\x00\x01\xfe\xff", 3) {
		behind := codec.Behind(s)
		for _, x := range all {
			above := x > s && !strings.HasPrefix(x, s) && x > s+long
			if above != (behind != "" && x >= behind) {
				t.Errorf("Behind(% x): % x: % x is above: %v", s, behind, x, above)
			}
		}
	}
}

// P1.7
func TestMix(t *testing.T) {
	step := uint64(0x9e3779b97f4a7c15)
	for _, c := range []struct{ n, want uint64 }{
		{0, 0xe220a8397b1dcdaf}, {1, 0x910a2dec89025cc1},
		{step, 0x6e789e6aa1b965f4}, {2 * step, 0x06c45d188009454f}, {3 * step, 0xf88bb8a8724c81ec},
		{-step, 0},
	} {
		if got := codec.Mix(c.n); got != c.want {
			t.Errorf("Mix(%x): %x, want %x", c.n, got, c.want)
		}
	}
	for _, n := range uints() {
		if got, want := codec.Mix(n), mixed(n); got != want {
			t.Errorf("Mix(%x): %x, want %x", n, got, want)
		}
	}
}

// mixed is Mix in whole numbers of any size, as P1.7 says it.
func mixed(n uint64) uint64 {
	round := new(big.Int).Lsh(big.NewInt(1), 64)
	number := func(hex string) *big.Int { x, _ := new(big.Int).SetString(hex, 16); return x }
	x := new(big.Int).SetUint64(n)
	x.Add(x, number("9e3779b97f4a7c15")).Mod(x, round)
	x.Xor(x, new(big.Int).Rsh(x, 30))
	x.Mul(x, number("bf58476d1ce4e5b9")).Mod(x, round)
	x.Xor(x, new(big.Int).Rsh(x, 27))
	x.Mul(x, number("94d049bb133111eb")).Mod(x, round)
	x.Xor(x, new(big.Int).Rsh(x, 31))
	return x.Uint64()
}

// P1.8
func TestKeyIntRises(t *testing.T) {
	for _, a := range ints() {
		for _, b := range ints() {
			if a >= b {
				continue
			}
			for _, x := range tails() {
				for _, y := range tails() {
					if codec.KeyInt(a)+x >= codec.KeyInt(b)+y {
						t.Errorf("KeyInt(%d) and % x is not below KeyInt(%d) and % x", a, x, b, y)
					}
				}
			}
		}
	}
}

// P1.8
func TestKeyTextRises(t *testing.T) {
	l := texts("\x00\x01\x02\xfe\xff", 3)
	for _, a := range l {
		for _, b := range l {
			if a >= b {
				continue
			}
			ka, kb := codec.KeyText(a), codec.KeyText(b)
			if strings.HasPrefix(ka, kb) || strings.HasPrefix(kb, ka) {
				t.Errorf("one is the beginning of the other: KeyText(% x), KeyText(% x)", a, b)
			}
			for _, x := range tails() {
				for _, y := range tails() {
					if ka+x >= kb+y {
						t.Errorf("KeyText(% x) and % x is not below KeyText(% x) and % x", a, x, b, y)
					}
				}
			}
		}
	}
}

// R1, R2: whatever bytes come, each Take answers a piece from their beginning, or an error and noughts.
func TestTakesAnything(t *testing.T) {
	r := rand.New(rand.NewSource(2))
	check := func(what, s string, k int, err api.Errno, zero bool, again string) {
		if err == api.OK && (k < 1 || k > len(s) || again != s[:k]) {
			t.Errorf("%s(% x): %d bytes, but put again % x", what, s, k, again)
		}
		if err != api.OK && (err != api.ErrMore && err != api.ErrForm || k != 0 || !zero) {
			t.Errorf("%s(% x): error %d, but %d bytes, or a value", what, s, err, k)
		}
	}
	for range 20000 {
		s, most := random(r, 14), r.Intn(16)-2
		u, k, err := codec.TakeUint(s)
		check("TakeUint", s, k, err, u == 0, codec.PutUint(u))
		n, k, err := codec.TakeInt(s)
		check("TakeInt", s, k, err, n == 0, codec.PutInt(n))
		x, k, err := codec.TakeText(s, most)
		check("TakeText", s, k, err, x == "", codec.PutText(x))
		n, k, err = codec.TakeKeyInt(s)
		check("TakeKeyInt", s, k, err, n == 0, codec.KeyInt(n))
		x, k, err = codec.TakeKeyText(s)
		check("TakeKeyText", s, k, err, x == "", codec.KeyText(x))
	}
}

// R3: a text that is taken lies in memory of its own.
func TestTakenTextsShareNothing(t *testing.T) {
	want := strings.Repeat("some text ", 100)
	s := codec.PutText(want) + codec.KeyText(want)
	check := func(what, x string) {
		from, at := uintptr(unsafe.Pointer(unsafe.StringData(s))), uintptr(unsafe.Pointer(unsafe.StringData(x)))
		if x != want || at >= from && at < from+uintptr(len(s)) {
			t.Errorf("%s: the argument's memory, or another text: %q", what, x)
		}
	}
	text, k, _ := codec.TakeText(s, len(want))
	check("TakeText", text)
	text, _, _ = codec.TakeKeyText(s[k:])
	check("TakeKeyText", text)
}
