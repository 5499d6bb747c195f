package event_test

import (
	"math"
	"math/rand"
	"slices"
	"strings"
	"testing"

	"tapestry/api"
	"tapestry/event"
)

// check holds what is read of bytes against the model, and what was read against its bytes.
func check(t *testing.T, s string) api.Errno {
	t.Helper()
	want, many, no := modelDecode(s)
	e, n, err := event.Decode(s)
	if e != want || n != many || err != no {
		t.Fatalf("Decode of % x: %v %d %d, want %v %d %d", s, e, n, err, want, many, no)
	}
	if err != api.OK {
		return err
	}
	if back, e := event.Encode(want); e != api.OK || back != s[:n] {
		t.Fatalf("Encode of what % x was read as: % x %d", s, back, e)
	}
	return err
}

// unpacked holds what bytes are as events against the model.
func unpacked(t *testing.T, s string) api.Errno {
	t.Helper()
	want, no, place := modelUnpack(s)
	l, err, at := event.Unpack(s)
	if !slices.Equal(l, want) || err != no || at != place {
		t.Fatalf("Unpack of % x: %v %d %d, want %v %d %d", s, l, err, at, want, no, place)
	}
	return err
}

// P14.3, P14.4: events whose bytes are worked out by hand: the chapter's examples, numbers of several bytes, below 0, the greatest ones.
func TestBytesByHand(t *testing.T) {
	for _, c := range []struct {
		e     api.Event
		bytes string
	}{
		{api.Event{Id: 1, Kind: 1, B: 7}, "\x01\x00\x01\x00\x0e\x00\x00\x00\x00"},
		{api.Event{Id: 2, Kind: 2, A: 1}, "\x02\x00\x02\x02"},
		{api.Event{Id: 256, Time: 300, Kind: 31}, "\x80\x02\xac\x02\x1f"},
		{api.Event{Id: 1, Kind: 1, A: 1, B: -1, C: 2, D: 3, E: 4, F: 64}, "\x01\x00\x01\x02\x01\x04\x06\x08\x80\x01"},
		{api.Event{Id: 5, Time: 1 << 40, Kind: 11, A: math.MinInt64}, "\x05\x80\x80\x80\x80\x80\x20\x0b\xff\xff\xff\xff\xff\xff\xff\xff\xff\x01"},
		{api.Event{Id: 127, Time: 127, Kind: 15, A: math.MaxInt64}, "\x7f\x7f\x0f\xfe\xff\xff\xff\xff\xff\xff\xff\xff\x01"},
		{api.Event{Id: 128, Time: 128, Kind: 24, A: 3, B: 4, C: 1}, "\x80\x01\x80\x01\x18\x06\x08\x02"},
		{api.Event{Id: 9, Kind: 18, A: -2, B: 2}, "\x09\x00\x12\x03\x04"},
	} {
		if s, err := event.Encode(c.e); s != c.bytes || err != api.OK {
			t.Errorf("Encode of %v: % x %d, want % x", c.e, s, err, c.bytes)
		}
		if s, err := event.Pack([]api.Event{c.e}); s != c.bytes || err != api.OK {
			t.Errorf("Pack of %v alone: % x %d, want % x", c.e, s, err, c.bytes)
		}
		for _, more := range []string{"", "\x00", "\xff\xff", c.bytes} {
			if e, n, err := event.Decode(c.bytes + more); e != c.e || n != len(c.bytes) || err != api.OK {
				t.Errorf("Decode of % x, and % x behind it: %v %d %d", c.bytes, more, e, n, err)
			}
		}
		if l, err, at := event.Unpack(c.bytes); len(l) != 1 || l[0] != c.e || err != api.OK || at != 0 {
			t.Errorf("Unpack of % x: %v %d %d", c.bytes, l, err, at)
		}
	}
}

// P14.3: what may not be has no bytes, and its bytes are no event: any spoiled events.
func TestEncodeModel(t *testing.T) {
	r := rand.New(rand.NewSource(143))
	told := map[api.Errno]int{}
	for range 100000 {
		e := anyEvent(r)
		for range r.Intn(2) {
			e = spoiled(r, e)
		}
		want, no := modelEncode(e)
		s, err := event.Encode(e)
		if s != want || err != no {
			t.Fatalf("Encode of %v: % x %d, want % x %d", e, s, err, want, no)
		}
		told[err]++
		if err == api.OK {
			check(t, s)
			continue
		}
		if e.Id >= 0 && e.Time >= 0 && e.Kind >= 0 {
			var l []int64
			for i := range table()[min(e.Kind, 31)] {
				l = append(l, *letters(&e)[i])
			}
			check(t, raw(uint64(e.Id), uint64(e.Time), uint64(e.Kind), l...))
		}
	}
	if told[api.OK] < 1000 || told[api.ErrEvent] < 1000 {
		t.Errorf("only %v", told)
	}
}

// P14.3: which error Decode tells, by hand: the first number that chapter 1 refuses, from the left; ErrEvent as soon as one is too great, and when there is no such kind; what may not be, once all is read.
func TestDecodeErrors(t *testing.T) {
	over, most := raw(0, 0, 1<<62+1)[2:], raw(0, 0, 1<<62)[2:]
	greatest := raw(0, 0, math.MaxUint64)[2:]
	broken, cut := "\x80\x00", "\x80"
	for _, c := range []struct {
		what, s string
		want    api.Errno
	}{
		{"no byte", "", api.ErrMore},
		{"an Id that is cut off", cut, api.ErrMore},
		{"an Id alone", "\x01", api.ErrMore},
		{"no kind", "\x01\x00", api.ErrMore},
		{"a kind that is cut off", "\x01\x00" + cut, api.ErrMore},
		{"no number", "\x01\x00\x02", api.ErrMore},
		{"a number that is cut off", "\x01\x00\x02" + cut, api.ErrMore},
		{"a last number that is cut off", "\x01\x00\x09\x02\x00" + cut, api.ErrMore},
		{"an Id that is none", broken, api.ErrForm},
		{"a Time that is none", "\x01" + broken, api.ErrForm},
		{"a kind that is none", "\x01\x00" + broken, api.ErrForm},
		{"a number that is none", "\x01\x00\x02" + broken, api.ErrForm},
		{"a second number that is none", "\x01\x00\x0e\x02" + broken, api.ErrForm},
		{"a number of more than 64 bits", "\x01\x00\x0b\xff\xff\xff\xff\xff\xff\xff\xff\xff\x02", api.ErrForm},
		{"an Id of more than 64 bits", "\xff\xff\xff\xff\xff\xff\xff\xff\xff\x02", api.ErrForm},
		{"an Id above 2^62", over, api.ErrEvent},
		{"an Id above 2^62, and a broken Time", over + broken, api.ErrEvent},
		{"an Id above 2^62, and a Time that is cut off", over + cut, api.ErrEvent},
		{"the greatest Id", greatest + broken, api.ErrEvent},
		{"an Id of 2^63", raw(1<<63, 0, 0)[:10] + broken, api.ErrEvent},
		{"a Time above 2^62", "\x01" + over, api.ErrEvent},
		{"a Time above 2^62, and a broken kind", "\x01" + over + broken, api.ErrEvent},
		{"the greatest Time", "\x01" + greatest + cut, api.ErrEvent},
		{"a kind above 2^62", "\x01\x00" + over, api.ErrEvent},
		{"the greatest kind", "\x01\x00" + greatest + broken, api.ErrEvent},
		{"an Id of 2^62 and no more", most, api.ErrMore},
		{"an Id of 2^62, and a broken Time", most + broken, api.ErrForm},
		{"a Time of 2^62, and no more", "\x01" + most, api.ErrMore},
		{"a Time of 2^62, and a broken kind", "\x01" + most + broken, api.ErrForm},
		{"an Id of 2^62, else whole", most + "\x00\x1f", api.ErrEvent},
		{"a Time of 2^62, else whole", "\x01" + most + "\x1f", api.ErrEvent},
		{"a kind of 2^62", "\x01\x00" + most, api.ErrEvent},
		{"the kind 0", "\x01\x00\x00", api.ErrEvent},
		{"the kind 0, and broken bytes", "\x01\x00\x00" + broken, api.ErrEvent},
		{"the kind 32", "\x01\x00\x20", api.ErrEvent},
		{"the kind 32, and broken bytes", "\x01\x00\x20" + broken, api.ErrEvent},
		{"the kind 32, and bytes that are cut off", "\x01\x00\x20" + cut, api.ErrEvent},
		{"the Id 0, and the kind 32", "\x00\x00\x20", api.ErrEvent},
		{"the Id 0, else whole", "\x00\x00\x1f", api.ErrEvent},
		{"the Id 257, else whole", "\x81\x02\x00\x1f", api.ErrEvent},
		{"the Id 257, and no more", "\x81\x02", api.ErrMore},
		{"the Id 257, and a broken number", "\x81\x02\x00\x02" + broken, api.ErrForm},
		{"a Time above MaxTime, and a number that is cut off", raw(1, 1<<40+1, 2) + cut, api.ErrMore},
		{"a Time above MaxTime, else whole", raw(1, 1<<40+1, 2, 1), api.ErrEvent},
		{"a first number that may not be, and a broken one", "\x01\x00\x09\x00" + broken, api.ErrForm},
		{"a first number that may not be, and no more", "\x01\x00\x09\x00", api.ErrMore},
		{"a first number that may not be, else whole", "\x01\x00\x09\x00\x00\x00", api.ErrEvent},
		{"a task that saw no event", "\x02\x00\x02\x00", api.ErrEvent},
		{"a task that saw events below none", "\x02\x00\x02\x01", api.ErrEvent},
	} {
		if e, n, err := event.Decode(c.s); e != (api.Event{}) || n != 0 || err != c.want {
			t.Errorf("%s, % x: %v %d %d, want %d", c.what, c.s, e, n, err, c.want)
		}
		check(t, c.s)
		first := "\x01\x00\x1f"
		if c.s == "" {
			continue
		}
		if l, err, at := event.Unpack(first + first + c.s); len(l) != 0 || err != c.want || at != 6 {
			t.Errorf("%s, behind two events: %v %d %d, want %d", c.what, l, err, at, c.want)
		}
	}
}

// P14.3: all short rows of some bytes, of numbers' beginnings and ends, kinds that are and aren't.
func TestDecodeRows(t *testing.T) {
	bytes := []byte{0, 1, 2, 3, 4, 9, 24, 31, 32, 0x80, 0x82}
	told := map[api.Errno]int{}
	var rows func(s string, left int)
	rows = func(s string, left int) {
		told[check(t, s)]++
		unpacked(t, s)
		if left == 0 {
			return
		}
		for _, b := range bytes {
			rows(s+string([]byte{b}), left-1)
		}
	}
	rows("", 5)
	rows("\x01\x00\x18\x02", 3)
	rows("\x01\x00\x0e\x02", 3)
	for _, err := range []api.Errno{api.OK, api.ErrMore, api.ErrForm, api.ErrEvent} {
		if told[err] < 100 {
			t.Errorf("only %v", told)
		}
	}
}

// P14.3: the bytes of any event, of which each place is cut off, or has another byte.
func TestDecodeSpoiled(t *testing.T) {
	r := rand.New(rand.NewSource(1433))
	told := map[api.Errno]int{}
	for range 2000 {
		s, err := event.Encode(anyEvent(r))
		if err != api.OK {
			t.Fatal(err)
		}
		for i := range s {
			if err := check(t, s[:i]); err != api.ErrMore {
				t.Fatalf("% x, cut off at %d: %d", s, i, err)
			}
			told[check(t, s[:i]+string([]byte{byte(r.Intn(256))})+s[i+1:])]++
			told[check(t, s[:i]+strings.Repeat("\xff", r.Intn(11))+s[i:])]++
		}
	}
	for _, err := range []api.Errno{api.OK, api.ErrMore, api.ErrForm, api.ErrEvent} {
		if told[err] < 100 {
			t.Errorf("only %v", told)
		}
	}
}

// P14.4: no event, and the chapter's example; one that may not be, at each place of a row.
func TestPack(t *testing.T) {
	if s, err := event.Pack(nil); s != "" || err != api.OK {
		t.Errorf("of no event: %q %d", s, err)
	}
	if s, err := event.Pack([]api.Event{}); s != "" || err != api.OK {
		t.Errorf("of an empty list: %q %d", s, err)
	}
	if l, err, at := event.Unpack(""); len(l) != 0 || err != api.OK || at != 0 {
		t.Errorf("of no byte: %v %d %d", l, err, at)
	}
	two := []api.Event{{Id: 1, Kind: 1, B: 7}, {Id: 2, Kind: 2, A: 1}}
	const bytes = "\x01\x00\x01\x00\x0e\x00\x00\x00\x00\x02\x00\x02\x02"
	if s, err := event.Pack(two); s != bytes || err != api.OK {
		t.Errorf("%q %d", s, err)
	}
	if l, err, at := event.Unpack(bytes); !slices.Equal(l, two) || err != api.OK || at != 0 {
		t.Errorf("%v %d %d", l, err, at)
	}
	if l, err, at := event.Unpack(bytes + "\x03"); len(l) != 0 || err != api.ErrMore || at != 13 {
		t.Errorf("%v %d %d", l, err, at)
	}
	many := valid()
	for i := range many {
		bad := slices.Clone(many)
		bad[i].Id = 0
		if s, err := event.Pack(bad); s != "" || err != api.ErrEvent {
			t.Errorf("one that may not be, at %d: %q %d", i, s, err)
		}
	}
}

// P14.4: a row whose events may be, in which a later one is broken: its error, and its place.
func TestUnpackPlace(t *testing.T) {
	many := valid()
	at := 0
	for i, e := range many {
		ahead, err := event.Pack(many[:i])
		if err != api.OK || len(ahead) != at {
			t.Fatalf("%d events: %d bytes %d, want %d", i, len(ahead), err, at)
		}
		for bad, want := range map[string]api.Errno{"\x80": api.ErrMore, "\x80\x00": api.ErrForm, "\x00\x00\x1f": api.ErrEvent, "\x01\x00\x20\x80\x00": api.ErrEvent} {
			if l, err, place := event.Unpack(ahead + bad); len(l) != 0 || err != want || place != at {
				t.Errorf("% x behind %d events: %v %d %d, want %d %d", bad, i, l, err, place, want, at)
			}
			if err := unpacked(t, ahead+bad+ahead); want != api.ErrMore && err != want {
				t.Errorf("% x within twice %d events: %d, want %d", bad, i, err, want)
			}
		}
		s, _ := event.Encode(e)
		at += len(s)
	}
}

// P14.4, P14.6: any rows of events: their bytes stand one behind the other, and are read as the same; cut off and spoiled ones held against the model.
func TestPackModel(t *testing.T) {
	r := rand.New(rand.NewSource(144))
	told := map[api.Errno]int{}
	for range 3000 {
		l := anyEvents(r, r.Intn(12))
		want := ""
		for _, e := range l {
			s, _ := modelEncode(e)
			want += s
		}
		kept := slices.Clone(l)
		s, err := event.Pack(l)
		if s != want || err != api.OK || !slices.Equal(l, kept) {
			t.Fatalf("Pack of %v: % x %d, want % x", l, s, err, want)
		}
		if back, err, at := event.Unpack(s); !slices.Equal(back, l) || err != api.OK || at != 0 {
			t.Fatalf("Unpack of % x: %v %d %d", s, back, err, at)
		}
		if len(s) == 0 {
			continue
		}
		i := r.Intn(len(s))
		told[unpacked(t, s[:i])]++
		told[unpacked(t, s[:i]+string([]byte{byte(r.Intn(256))})+s[i+1:])]++
	}
	for _, err := range []api.Errno{api.OK, api.ErrMore, api.ErrForm, api.ErrEvent} {
		if told[err] < 20 {
			t.Errorf("only %v", told)
		}
	}
}

// P14.6: no event's bytes are the beginning of another one's.
func TestNoBeginning(t *testing.T) {
	r := rand.New(rand.NewSource(146))
	seen := map[string]api.Event{}
	var l []string
	for len(l) < 20000 {
		e := anyEvent(r)
		s, err := event.Encode(e)
		if err != api.OK {
			t.Fatalf("%v: %d", e, err)
		}
		if other, ok := seen[s]; ok {
			if other != e {
				t.Fatalf("% x: both %v and %v", s, e, other)
			}
			continue
		}
		seen[s] = e
		l = append(l, s)
	}
	slices.Sort(l)
	for i := 1; i < len(l); i++ {
		if strings.HasPrefix(l[i], l[i-1]) {
			t.Fatalf("% x is the beginning of % x", l[i-1], l[i])
		}
	}
}

// R3: what is unpacked is a list of its own, its spare room too.
func TestUnpackNew(t *testing.T) {
	s, _ := event.Pack(valid())
	a, _, _ := event.Unpack(s)
	b, _, _ := event.Unpack(s)
	for i := range a[:cap(a)] {
		a[:cap(a)][i] = api.Event{Id: 77}
	}
	if !slices.Equal(b, valid()) {
		t.Error("two answers share memory")
	}
	if c, _, _ := event.Unpack(s); !slices.Equal(c, valid()) {
		t.Error("an answer is kept")
	}
}
