package bloom_test

import (
	"encoding/hex"
	"hash/fnv"
	"math"
	"math/big"
	"math/rand"
	"slices"
	"strconv"
	"strings"
	"testing"

	"tapestry/bloom"
	"tapestry/codec"
)

// of are so many bytes, all alike.
func of(c string, n int) string { return strings.Repeat(c, n) }

// filter is one of a K and the bytes of its bits.
func filter(k int, bits string) string { return string([]byte{byte(k)}) + bits }

// flip is a filter in which one bit, by its number, is turned.
func flip(filter string, place int) string {
	b := []byte(filter)
	b[1+place/8] ^= 1 << (place % 8)
	return string(b)
}

// short is a text's beginning, as much as a failed test may tell.
func short(s string) string { return hex.EncodeToString([]byte(s[:min(len(s), 24)])) }

// keys are such as may be, and such as no store has.
func keys() []string {
	l := []string{"", "a", "b", "ab", "ba", "\x00", "\x00\x00", "a\x00", "\xff", "\x80\xff\x00z", "é", "key17", of("x", 96), of("x", 97), of("\xff", 3000)}
	for i := range 40 {
		l = append(l, "key"+strconv.Itoa(i*i))
	}
	return l
}

func random(r *rand.Rand, most int) string {
	b := make([]byte, r.Intn(most+1))
	for i := range b {
		b[i] = byte(r.Intn(256))
	}
	return string(b)
}

// hash is a key's hash, by another way.
func hash(key string) uint64 {
	h := fnv.New64a()
	h.Write([]byte(key))
	return codec.Mix(h.Sum64())
}

// model are a key's k bits in a filter of m, told with numbers of any size.
func model(key string, k, m int) []int {
	round := new(big.Int).Lsh(big.NewInt(1), 64)
	h := new(big.Int).SetUint64(hash(key))
	d := new(big.Int).Lsh(h, 31)
	d.Add(new(big.Int).Mod(d, round), new(big.Int).Div(d, round)) // what goes out at the top comes in at the bottom
	var l []int
	for i := range k {
		x := new(big.Int).Mul(d, big.NewInt(int64(i)))
		x.Mod(x.Add(x, h), round)
		l = append(l, int(x.Mod(x, big.NewInt(int64(m))).Int64()))
	}
	return l
}

// built is the filter that is asked for by K, by how many bits it has, and by its keys.
func built(k, m int, keys []string) string {
	s := filter(k, of("\x00", m/8))
	for _, key := range keys {
		for _, place := range model(key, k, m) {
			if s[1+place/8]>>(place%8)&1 == 0 {
				s = flip(s, place)
			}
		}
	}
	return s
}

func checkBuild(t *testing.T, want string, bits int, keys ...string) {
	t.Helper()
	if got := bloom.Build(bits, keys...); got != want {
		t.Errorf("Build(%d, %d keys): %s.., %d bytes, want %s.., %d bytes", bits, len(keys), short(got), len(got), short(want), len(want))
	}
}

func checkHas(t *testing.T, filter, key string, want bool) {
	t.Helper()
	if got := bloom.Has(filter, key); got != want {
		t.Errorf("Has(%s.., %d bytes, %s..): %t", short(filter), len(filter), short(key), got)
	}
}

func checkLoad(t *testing.T, filter string, set, all int) {
	t.Helper()
	if n, m := bloom.Load(filter); n != set || m != all {
		t.Errorf("Load(%s.., %d bytes): %d %d, want %d %d", short(filter), len(filter), n, m, set, all)
	}
}

// P7.1
func TestHash(t *testing.T) {
	for _, c := range []struct {
		key  string
		hash uint64
	}{
		{"", 0xc3817c016ba4ff30}, {"a", 0x5f29c2aadd9b8527}, {"b", 0x56f6a47e30923664}, {"\x00", 0x71b8262bb6e2e086}, {"\x00\x00", 0x6382567327bf3b67},
		{"\xff", 0x01df27c8adb0f2d1}, {"ab", 0xac88143b44756305}, {"ba", 0x615672a6b0ef0ac5}, {"key17", 0xf29452fdb0d61f60}, {"\xc3\xa9", 0x6e2411eb685090ba},
		{"\x80\xff\x00z", 0x23e10d955cb5fb3a}, {of("x", 96), 0x75fd433ac06e80d9},
	} {
		if got := bloom.Hash(c.key); got != c.hash {
			t.Errorf("Hash(%s..): %x, want %x", short(c.key), got, c.hash)
		}
	}
}

// P7.1
func TestHashOfAllBytes(t *testing.T) {
	r := rand.New(rand.NewSource(1))
	l := keys()
	for c := range 256 {
		l = append(l, string([]byte{byte(c)}), string([]byte{'x', byte(c), 'y'}))
	}
	for range 500 {
		l = append(l, random(r, 200))
	}
	for _, key := range l {
		if got, want := bloom.Hash(key), hash(key); got != want {
			t.Errorf("Hash(%s.., %d bytes): %x, want %x", short(key), len(key), got, want)
		}
	}
}

// none are texts that are no filters.
func none() []string {
	var l []string
	for _, fill := range []string{"\x00", "\x01", "\xff"} {
		for k := range 256 {
			for n := range 8 { // too short, whatever K is
				l = append(l, filter(k, of(fill, n)))
			}
			if k == 0 || k > 30 {
				l = append(l, filter(k, of(fill, 8)), filter(k, of(fill, 9)), filter(k, of(fill, 500)))
			}
		}
	}
	return l
}

// P7.2
func TestValid(t *testing.T) {
	if !bloom.Valid("") {
		t.Error("Valid of the empty text: false")
	}
	for _, s := range none() {
		if bloom.Valid(s) {
			t.Errorf("Valid(%s.., %d bytes): true", short(s), len(s))
		}
	}
	for k := 1; k <= 30; k++ {
		for _, n := range []int{8, 9, 10, 15, 16, 17, 31, 500} {
			for _, fill := range []string{"\x00", "\x01", "\xff"} {
				if s := filter(k, of(fill, n)); !bloom.Valid(s) {
					t.Errorf("Valid(%s.., %d bytes): false", short(s), len(s))
				}
			}
		}
	}
}

// P7.2
func TestLoad(t *testing.T) {
	checkLoad(t, "", 0, 0)
	for _, s := range none() {
		checkLoad(t, s, 0, 0)
	}
	for _, k := range []int{1, 2, 7, 29, 30} { // the bits of K are none of the filter's
		for _, n := range []int{8, 9, 13, 500} {
			checkLoad(t, filter(k, of("\x00", n)), 0, 8*n)
			checkLoad(t, filter(k, of("\xff", n)), 8*n, 8*n)
			checkLoad(t, filter(k, of("\x01", n)), n, 8*n)
			checkLoad(t, filter(k, of("\xb0", n)), 3*n, 8*n)
			for place := range min(8*n, 104) {
				checkLoad(t, flip(filter(k, of("\x00", n)), place), 1, 8*n)
				checkLoad(t, flip(filter(k, of("\xff", n)), place), 8*n-1, 8*n)
			}
		}
	}
}

// P7.2, P7.4: what is built has as many bits as its keys have places.
func TestLoadOfWhatWasBuilt(t *testing.T) {
	for _, c := range []struct{ bits, k, m int }{{10, 6, 560}, {1, 1, 64}, {7, 4, 392}} {
		places := map[int]struct{}{}
		l := keys()
		for i := range 56 {
			for _, place := range model(l[i%len(l)], c.k, c.m) {
				places[place] = struct{}{}
			}
		}
		checkLoad(t, bloom.Build(c.bits, append(l, l[0])[:56]...), len(places), c.m)
	}
}

// P7.3: each bit of a key is asked, none beside them, of filters whose bits go evenly into 2^64 and of others.
func TestBitsOfAKey(t *testing.T) {
	for _, key := range []string{"", "a", "key17", "\xff", of("x", 96)} {
		for k := 1; k <= 30; k++ {
			for _, n := range []int{8, 9, 11, 16, 25} {
				mine := model(key, k, 8*n)
				full, bare := filter(k, of("\xff", n)), built(k, 8*n, []string{key})
				checkHas(t, full, key, true)
				checkHas(t, bare, key, true)
				checkHas(t, filter(k, of("\x00", n)), key, false)
				for place := range 8 * n {
					asked := slices.Contains(mine, place)
					checkHas(t, flip(full, place), key, !asked)
					checkHas(t, flip(bare, place), key, !asked)
				}
			}
		}
	}
}

// P7.3, P7.5: in long filters too, of a K that Build doesn't make.
func TestBitsOfAKeyInLongFilters(t *testing.T) {
	for _, key := range keys() {
		for _, n := range []int{999, 4096, 70001} {
			for _, k := range []int{1, 13, 30} {
				s := built(k, 8*n, []string{key})
				checkHas(t, s, key, true)
				for _, place := range model(key, k, 8*n) {
					checkHas(t, flip(s, place), key, false)
				}
			}
		}
	}
}

// P7.4
func TestBuildBytes(t *testing.T) {
	ten := []string{"0", "1", "2", "3", "4", "5", "6", "7", "8", "9"}
	for _, c := range []struct {
		want string
		bits int
		keys []string
	}{
		{"0600000300c0000018", 10, []string{"a"}},
		{"010000000080000000", 1, []string{"a"}},
		{"010000000000000100", 1, []string{""}},
		{"0d00c00300f800001e", 20, []string{"a"}},
		{"020000000098000010", 3, []string{"a", "b"}},
		{"0d2192b5fbc9b45f4c0304", 20, []string{"a", "b", "ab", ""}},
		{"08e022c23f600c881231", 13, []string{"a", "b", "a", "ab", "\xff"}},
		{"04698b622e4a9b285106", 7, ten},
	} {
		want, err := hex.DecodeString(c.want)
		if err != nil {
			t.Fatal(err)
		}
		checkBuild(t, string(want), c.bits, c.keys...)
	}
}

// P7.4: K is bits times 69 by 100, downwards, but at least 1.
func TestBuildOfSoManyBits(t *testing.T) {
	for bits, k := range []int{1: 1, 1, 2, 2, 3, 4, 4, 5, 6, 6, 7, 8, 8, 9, 10, 11, 11, 12, 13, 13} {
		if bits == 0 {
			continue
		}
		l := keys()
		for n := 1; n <= len(l); n++ {
			checkBuild(t, built(k, max((bits*n+7)/8, 8)*8, l[:n]), bits, l[:n]...)
		}
	}
}

// P7.4: more bits than 20 are 20.
func TestBuildOfTooManyBits(t *testing.T) {
	for _, bits := range []int{20, 21, 22, 30, 31, 43, 44, 100, 256 + 1, 1 << 31, 1<<32 + 1, 1<<62 + 1, math.MaxInt - 1, math.MaxInt} {
		checkBuild(t, built(13, 64, []string{"a", "b", "c"}), bits, "a", "b", "c")
		checkBuild(t, built(13, 80, []string{"a", "b", "c", "d"}), bits, "a", "b", "c", "d")
		checkBuild(t, built(13, 8*138, keys()), bits, keys()...)
	}
}

// P7.4
func TestBuildOfNothing(t *testing.T) {
	for _, bits := range []int{0, -1, -10, -256 + 1, math.MinInt32, math.MinInt + 1, math.MinInt} {
		checkBuild(t, "", bits)
		checkBuild(t, "", bits, "a")
		checkBuild(t, "", bits, keys()...)
	}
	for _, bits := range []int{1, 10, 20, 21, math.MaxInt} {
		checkBuild(t, "", bits)
		checkBuild(t, "", bits, []string{}...)
	}
	checkBuild(t, built(6, 64, []string{""}), 10, "")
}

// P7.4: at least 64 bits, then whole bytes; a key that stands twice counts twice.
func TestBuildCounts(t *testing.T) {
	for _, c := range []struct{ bits, n, k, m int }{
		{1, 1, 1, 64}, {1, 63, 1, 64}, {1, 64, 1, 64}, {1, 65, 1, 72}, {1, 71, 1, 72}, {1, 72, 1, 72}, {1, 73, 1, 80},
		{13, 4, 8, 64}, {13, 5, 8, 72}, {9, 7, 6, 64}, {9, 8, 6, 72}, {20, 3, 13, 64}, {20, 4, 13, 80}, {25, 5, 13, 104}, {7, 1001, 4, 7008},
	} {
		one, l := []string{}, []string{}
		for i := range c.n {
			one, l = append(one, "one"), append(l, strconv.Itoa(i))
		}
		checkBuild(t, built(c.k, c.m, one[:1]), c.bits, one...)
		checkBuild(t, built(c.k, c.m, l), c.bits, l...)
		l[0] = l[c.n-1]
		checkBuild(t, built(c.k, c.m, l), c.bits, l...)
	}
}

// P7.4: in whatever order the keys stand, and for every call anew.
func TestBuildOfKeysInAnyOrder(t *testing.T) {
	r := rand.New(rand.NewSource(3))
	l := append(keys(), "a", "a")
	want := bloom.Build(11, l...)
	for range 20 {
		r.Shuffle(len(l), func(i, k int) { l[i], l[k] = l[k], l[i] })
		checkBuild(t, want, 11, l...)
		bloom.Build(11, "other")
	}
}

// R3: the keys and what is behind them stay as they are.
func TestBuildWritesNoKeys(t *testing.T) {
	l := keys()
	bloom.Build(10, l[:5]...)
	if !slices.Equal(l, keys()) {
		t.Error("Build has written into its keys")
	}
}

// P7.5
func TestHasOfNoFilter(t *testing.T) {
	for _, key := range keys() {
		checkHas(t, "", key, true)
	}
	for _, s := range none() {
		for _, key := range []string{"", "a", "x", of("x", 96)} {
			checkHas(t, s, key, true)
		}
	}
}

// P7.5: of what was built, just the keys of which all bits are 1.
func TestHasOfOthers(t *testing.T) {
	denied := 0
	for _, c := range []struct{ bits, k, m int }{{1, 1, 64}, {4, 2, 224}, {10, 6, 552}, {20, 13, 1104}} {
		l := keys()
		s := bloom.Build(c.bits, l...)
		if c.m != 8*(len(s)-1) {
			t.Errorf("Build(%d, %d keys): %d bytes", c.bits, len(l), len(s))
			continue
		}
		for i := range 1000 {
			key, all := "other"+strconv.Itoa(i), true
			for _, place := range model(key, c.k, c.m) {
				all = all && s[1+place/8]>>(place%8)&1 == 1
			}
			checkHas(t, s, key, all)
			if !all {
				denied++
			}
		}
	}
	if denied < 3000 {
		t.Errorf("of 4000 keys that are in no filter, %d are denied", denied)
	}
}

// P7.6: no key that was built in is denied, whatever stands beside it.
func TestNoKeyIsDenied(t *testing.T) {
	r := rand.New(rand.NewSource(2))
	for range 300 {
		some, others := []string{}, []string{}
		for range 1 + r.Intn(40) {
			some = append(some, random(r, 20))
		}
		for range r.Intn(200) {
			others = append(others, random(r, 3))
		}
		bits := 1 + r.Intn(24)
		both := bloom.Build(bits, slices.Concat(some, others)...)
		alone := bloom.Build(bits, some...)
		for _, s := range []string{both, alone} {
			if s == "" || !bloom.Valid(s) {
				t.Fatalf("Build(%d, ..): %s", bits, short(s))
			}
		}
		for _, key := range some {
			checkHas(t, alone, key, true)
		}
		for _, key := range slices.Concat(some, others) {
			checkHas(t, both, key, true)
		}
	}
}
