package manifest

import (
	"strings"

	"tapestry/api"
	"tapestry/codec"
)

const (
	maxNumber = 1 << 62 // of a file, a sequence number
	maxSize   = 1 << 30 // bytes of a table, versions in it
	maxTables = 1000    // that one edit adds, or drops
)

// editMayBe tells whether an edit may be.
func editMayBe(e api.Edit) bool {
	if max(e.Next, e.Seq, e.Log) > maxNumber || max(len(e.Add), len(e.Drop)) > maxTables {
		return false
	}
	for _, t := range e.Add {
		if !tableMayBe(t) {
			return false
		}
	}
	for _, number := range e.Drop {
		if !numberMayBe(number) {
			return false
		}
	}
	return true
}

// tableMayBe tells whether a table may be.
func tableMayBe(t api.Table) bool {
	return numberMayBe(t.Number) && t.Level >= 0 && t.Level < api.Levels &&
		sizeMayBe(t.Size) && sizeMayBe(t.Count) &&
		keyMayBe(t.Least) && keyMayBe(t.Greatest) && t.Least <= t.Greatest
}

func numberMayBe(n uint64) bool { return n >= 1 && n <= maxNumber }
func sizeMayBe(n int) bool      { return n >= 1 && n <= maxSize }
func keyMayBe(key string) bool  { return key != "" && len(key) <= api.MaxKey }

// putEdit is the load of an edit.
func putEdit(e api.Edit) string {
	var load strings.Builder
	put := func(l ...uint64) {
		for _, n := range l {
			load.WriteString(codec.PutUint(n))
		}
	}
	put(e.Next, e.Seq, e.Log, uint64(len(e.Add)))
	for _, t := range e.Add {
		put(t.Number, uint64(t.Level), uint64(t.Size), uint64(t.Count))
		load.WriteString(codec.PutText(t.Least) + codec.PutText(t.Greatest))
	}
	put(uint64(len(e.Drop)))
	put(e.Drop...)
	return load.String()
}

// taker takes numbers and texts from bytes, from their beginning on. When there is none it is bad from then on, and what it takes says nothing.
type taker struct {
	rest string
	bad  bool
}

// cut is what a call has taken: it goes on behind its bytes, if it told no error.
func (t *taker) cut(bytes int, err api.Errno) {
	t.bad = t.bad || err != api.OK
	t.rest = t.rest[bytes:]
}

// number takes a number.
func (t *taker) number() uint64 {
	n, k, err := codec.TakeUint(t.rest)
	t.cut(k, err)
	return n
}

// small takes a number that is not above another one.
func (t *taker) small(most int) int {
	n := t.number()
	if n > uint64(most) {
		t.bad = true
		return 0
	}
	return int(n)
}

// key takes a key.
func (t *taker) key() string {
	s, k, err := codec.TakeText(t.rest, api.MaxKey)
	t.cut(k, err)
	return s
}

// takeEdit is the edit that a load says; false: it says none.
func takeEdit(load string) (api.Edit, bool) {
	t := taker{rest: load}
	e := api.Edit{Next: t.number(), Seq: t.number(), Log: t.number()}
	for range t.small(maxTables) {
		e.Add = append(e.Add, api.Table{
			Number: t.number(), Level: t.small(api.Levels - 1), Size: t.small(maxSize), Count: t.small(maxSize),
			Least: t.key(), Greatest: t.key(),
		})
	}
	for range t.small(maxTables) {
		e.Drop = append(e.Drop, t.number())
	}
	return e, !t.bad && t.rest == ""
}
