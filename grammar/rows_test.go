package grammar_test

import (
	"math/rand"
	"slices"
	"strings"
	"testing"

	"tapestry/api"
	"tapestry/grammar"
)

// told puts events that name one behind others, with a task ahead of each command, and tells whether that is a history, and whether the one that is named is open.
func told(t *testing.T, base []api.Event, id int64, kinds []int) (bool, bool) {
	t.Helper()
	h := slices.Clone(base)
	for _, kind := range kinds {
		if last := h[len(h)-1].Kind; command(kind) && last != 2 && !command(last) {
			h = append(h, ev(2, int64(len(h))))
		}
		h = append(h, ev(kind, id))
	}
	h = list(h...)
	same(t, h)
	l, err := grammar.Open(h)
	return err == api.OK, slices.Contains(l, int(id-1))
}

// P15.1, P15.2, word 6: all rows of up to five events that name one: which of them may be, and which leave it open, by hand.
func TestNamings(t *testing.T) {
	// Each row of namings that may be, with a letter for each kind, matched by a plain rule.
	once := func(row, of string) bool { return len(row) <= 1 && strings.Trim(row, of) == "" }
	count := func(row, of string) int { return len(row) - len(strings.ReplaceAll(row, of, "")) }
	ahead := func(row, first, second string) bool {
		a, b := strings.Index(row, first), strings.Index(row, second)
		return b < 0 || a >= 0 && a < b
	}
	for _, c := range []struct {
		base    []api.Event
		id      int64
		letters map[rune]int
		may     func(row string) bool
		open    func(row string) bool
	}{
		{list(ev(1), ev(2, 1), ev(3)), 3, map[rune]int{'u': 6, 'd': 22, 'b': 23, 'l': 24},
			func(row string) bool { return once(row, "udbl") },
			func(row string) bool { return row == "" }},
		{list(ev(1), ev(2, 1), ev(4, 0)), 3, map[rune]int{'u': 7, 'f': 25},
			func(row string) bool { return once(row, "uf") },
			func(row string) bool { return row == "" }},
		{list(ev(1), ev(2, 1), ev(5)), 3, map[rune]int{'u': 8, 't': 9, 'b': 26, 'n': 27, 'e': 28},
			func(row string) bool {
				row = strings.ReplaceAll(row, "t", "")
				return count(row, "u") <= 1 && count(row, "b")+count(row, "n") <= 1 && count(row, "e") <= 1 &&
					ahead(row, "b", "e") && !strings.Contains(row, "nu") && !strings.Contains(row, "eu")
			},
			func(row string) bool { return !strings.ContainsAny(row, "ne") }},
		{list(ev(1), ev(2, 1), ev(5), ev(9, 3)), 4, map[rune]int{'t': 29},
			func(row string) bool { return once(row, "t") },
			func(row string) bool { return false }},
		{list(ev(1), ev(21)), 2, map[rune]int{'a': 12, 'r': 13, 'w': 14},
			func(row string) bool { return row == "" || row == "a" || row == "r" || row == "aw" },
			func(row string) bool { return row == "" || row == "a" }},
	} {
		many := 0
		var rows func(row string, kinds []int)
		rows = func(row string, kinds []int) {
			may, open := told(t, c.base, c.id, kinds)
			if may != c.may(row) || open != (may && c.open(row)) {
				t.Errorf("%q about %v: %v %v", row, c.base[c.id-1], may, open)
			}
			many++
			if len(kinds) == 5 {
				return
			}
			for letter, kind := range c.letters {
				rows(row+string(letter), append(kinds[:len(kinds):len(kinds)], kind))
			}
		}
		rows("", nil)
		if many < 6 {
			t.Errorf("only %d rows", many)
		}
	}
}

// P15.1: what is named is told apart by its Id: two of each kind, of which each may be named.
func TestTwo(t *testing.T) {
	base := list(ev(1), ev(21), ev(21), ev(2, 3), ev(3), ev(3), ev(4, 0), ev(4, 0), ev(5), ev(5), ev(9, 9), ev(9, 9))
	for _, c := range []struct {
		kind int
		id   int64
	}{{6, 5}, {22, 5}, {23, 5}, {24, 5}, {7, 7}, {25, 7}, {8, 9}, {26, 9}, {27, 9}, {12, 2}, {13, 2}, {29, 11}} {
		for _, x := range [][2]int64{{c.id, c.id + 1}, {c.id + 1, c.id}} {
			h := list(append(base[:12:12], ev(c.kind, x[0]), ev(2, 13), ev(c.kind, x[1]))...)
			if err, place := grammar.Check(h); err != api.OK || place != 0 {
				t.Errorf("%d of both: %d %d", c.kind, err, place)
			}
			same(t, h)
			none(t, "twice of one", 14, list(append(base[:12:12], ev(c.kind, x[0]), ev(2, 13), ev(c.kind, x[0]))...))
			only := list(append(base[:12:12], ev(c.kind, x[0]))...)
			open := []int{1, 2, 4, 5, 6, 7, 8, 9}
			if !slices.Contains([]int{8, 12, 26, 29}, c.kind) {
				open = slices.DeleteFunc(open, func(n int) bool { return n == int(x[0]-1) })
			}
			is(t, "one of two", only, -1, open...)
		}
	}
}

// P15.1 to P15.3: all short lists of events of each kind, of which each A is small, held against the model.
func TestShort(t *testing.T) {
	whys := make([]int, reasons)
	var lists func(h []api.Event, left int)
	lists = func(h []api.Event, left int) {
		why := same(t, h)
		whys[why]++
		if left == 0 || why != 0 {
			return
		}
		for kind := 1; kind <= 31; kind++ {
			for a := int64(1); a <= int64(len(h)); a++ {
				lists(list(append(h[:len(h):len(h)], ev(kind, a))...), left-1)
			}
			if kind == 16 {
				lists(list(append(h[:len(h):len(h)], ev(kind, -4))...), left-1)
			}
		}
	}
	lists(list(ev(1)), 2)
	lists(list(ev(1), ev(2, 1)), 3)
	for _, why := range []int{0, 5, 6, 7, 8, 11, 13, 14} {
		if whys[why] < 5 {
			t.Errorf("only %v", whys)
		}
	}
}

// P15.1 to P15.3: any histories, and such of which one thing or some are others, held against the model.
func TestAny(t *testing.T) {
	r := rand.New(rand.NewSource(151))
	whys := make([]int, reasons)
	kinds := map[int]int{}
	for range 12000 {
		h := anyHistory(r, 1+r.Intn(40))
		if why := same(t, h); why != 0 {
			t.Fatalf("%v is none: %d", h, why)
		}
		for _, e := range h {
			kinds[e.Kind]++
		}
		for range 6 {
			l := spoiled(r, h)
			for range r.Intn(2) {
				if len(l) > 0 {
					l = spoiled(r, l)
				}
			}
			whys[same(t, l)]++
		}
	}
	for why, many := range whys {
		if many < 20 {
			t.Errorf("%d only %d times: %v", why, many, whys)
		}
	}
	for kind := 1; kind <= 31; kind++ {
		if kinds[kind] < 20 {
			t.Errorf("of the kind %d only %d: %v", kind, kinds[kind], kinds)
		}
	}
}

// P15.1 to P15.3: long histories, up to the most events that may be.
func TestLong(t *testing.T) {
	r := rand.New(rand.NewSource(152))
	full := 0
	for range 120 {
		var h []api.Event
		for len(h) < 256 {
			e := candidate(r, h)
			if closes(e.Kind) && len(h) < 255 || refused(h, e) != 0 {
				continue
			}
			h = append(h, e)
		}
		same(t, h)
		same(t, h[:255])
		if modelClose(h) < 0 {
			full++
			more := candidate(r, h)
			none(t, "one event more", 256, append(slices.Clone(h), more))
		}
		for range 5 {
			same(t, spoiled(r, h))
		}
	}
	if full < 50 {
		t.Errorf("only %d", full)
	}
}

// P15.4: each beginning of a history is one; what is open stays so, or is named by the event that comes; nothing else becomes open but that event.
func TestBeginnings(t *testing.T) {
	r := rand.New(rand.NewSource(154))
	ended := 0
	for range 1500 {
		h := anyHistory(r, 1+r.Intn(40))
		var ahead []int
		for n := range len(h) + 1 {
			err, place := grammar.Check(h[:n])
			open, no := grammar.Open(h[:n])
			if err != api.OK || place != 0 || no != api.OK {
				t.Fatalf("%v: %d %d %d", h[:n], err, place, no)
			}
			for _, at := range ahead {
				if slices.Contains(open, at) {
					continue
				}
				ended++
				if h[n-1].A != int64(at+1) {
					t.Fatalf("%v: %d is open no more", h[:n], at)
				}
			}
			for _, at := range open {
				if !slices.Contains(ahead, at) && at != n-1 {
					t.Fatalf("%v: %d is open", h[:n], at)
				}
			}
			ahead = open
			if end, err := grammar.Close(h[:n]); err != api.OK || end != -1 && end != n-1 {
				t.Fatalf("%v: closed at %d %d", h[:n], end, err)
			}
		}
	}
	if ended < 500 {
		t.Errorf("only %d", ended)
	}
}

// R3, R4: what is handed in is not written to; what comes out is new memory, its spare room too; nothing is kept.
func TestMemory(t *testing.T) {
	h := list(ev(1), ev(2, 1), ev(3), ev(4, 9), ev(5), ev(21))
	spare := append(h, ev(19), ev(20))
	kept := slices.Clone(spare)
	one, _ := grammar.Open(spare[:6])
	two, _ := grammar.Open(spare[:6])
	for i := range cap(one) {
		one[:cap(one)][i] = 77
	}
	if !slices.Equal(two, []int{2, 3, 4, 5}) || !slices.Equal(spare, kept) {
		t.Errorf("%v %v", two, spare)
	}
	again := slices.Clone(h)
	is(t, "ahead", again, -1, 2, 3, 4, 5)
	again[2] = ev(10, 1)
	again[2].Id = 3
	is(t, "another event there", again, -1, 3, 4, 5)
	again[2].Id = 2
	none(t, "another Id there", 2, again)
	is(t, "the first one", h, -1, 2, 3, 4, 5)
}
