package table

import (
	"math"

	"tapestry/api"
	"tapestry/codec"
	"tapestry/memtable"
)

const (
	seqBytes  = 8
	mostPlace = 2*api.MaxKey + 2 + seqBytes // bytes of a place, whose key's bytes may all be such as take two
	group     = 16                          // of so many versions the first one's place is told whole
)

// mayBe tells whether a version may be.
func mayBe(v api.Version) bool {
	most := api.MaxValue
	if v.Del {
		most = 0
	}
	return v.Key != "" && len(v.Key) <= api.MaxKey && v.Seq != 0 && v.Seq <= api.MaxSeq && len(v.Value) <= most
}

// check tells whether versions may be, and stand in order.
func check(l []api.Version) api.Errno {
	for _, v := range l {
		if !mayBe(v) {
			return api.ErrArg
		}
	}
	for i := 1; i < len(l); i++ {
		if !memtable.Less(l[i-1], l[i]) {
			return api.ErrOrder
		}
	}
	return api.OK
}

// EncodeKey is a version's key, and its sequence number, as bytes that rise as versions do.
func EncodeKey(v api.Version) string {
	if !mayBe(v) {
		return ""
	}
	n := 2 * v.Seq
	if v.Del {
		n++
	}
	// All bits are turned: the highest one by KeyInt.
	return codec.KeyText(v.Key) + codec.KeyInt(int64(n^math.MaxInt64))
}

// DecodeKey reads it: a version without a value.
func DecodeKey(s string) (api.Version, api.Errno) {
	key, at, err := codec.TakeKeyText(s)
	if err != api.OK || len(s) != at+seqBytes {
		return api.Version{}, api.ErrForm
	}
	turned, _, _ := codec.TakeKeyInt(s[at:])
	n := uint64(turned) ^ math.MaxInt64
	v := api.Version{Key: key, Seq: n / 2, Del: n%2 == 1}
	if !mayBe(v) {
		return api.Version{}, api.ErrForm
	}
	return v, api.OK
}

// shared is how many bytes of the place ahead a version's place, the n-th of a block, begins with.
func shared(n int, place, ahead string) int {
	if n%group == 0 {
		return 0
	}
	return codec.Common(place, ahead)
}

// writer puts the bytes of a block together.
type writer struct {
	bytes []byte
	many  int    // versions
	ahead string // the place of the last one of them
}

// add puts a version behind the others.
func (w *writer) add(v api.Version) {
	place := EncodeKey(v)
	n := shared(w.many, place, w.ahead)
	w.bytes = append(w.bytes, codec.PutUint(uint64(n))...)
	w.bytes = append(w.bytes, codec.PutText(place[n:])...)
	if !v.Del {
		w.bytes = append(w.bytes, codec.PutText(v.Value)...)
	}
	w.many, w.ahead = w.many+1, place
}

// EncodeBlock are versions as what a data block bears.
func EncodeBlock(l []api.Version) (string, api.Errno) {
	if err := check(l); err != api.OK {
		return "", err
	}
	var w writer
	for _, v := range l {
		w.add(v)
	}
	return string(w.bytes), api.OK
}

// DecodeBlock reads it.
func DecodeBlock(s string) ([]api.Version, api.Errno) {
	var l []api.Version
	r, ahead, last := reader{rest: s}, "", api.Version{}
	for r.rest != "" {
		n := r.number()
		if n > uint64(len(ahead)) {
			return nil, api.ErrForm
		}
		place := ahead[:n] + r.text(mostPlace)
		v, err := DecodeKey(place)
		if !v.Del {
			v.Value = r.text(api.MaxValue)
		}
		// A version of noughts stands ahead of all that may be, so the first one is held against that.
		if r.failed || err != api.OK || int(n) != shared(len(l), place, ahead) || !memtable.Less(last, v) {
			return nil, api.ErrForm
		}
		l, ahead, last = append(l, v), place, v
	}
	return l, api.OK
}

// reader takes numbers and texts off the beginning of bytes; what it took holds as long as none has failed to be taken.
type reader struct {
	rest   string
	failed bool
}

// number takes a number.
func (r *reader) number() uint64 {
	n, size, err := codec.TakeUint(r.rest)
	r.skip(size, err)
	return n
}

// text takes a text of at most so many bytes.
func (r *reader) text(most int) string {
	s, size, err := codec.TakeText(r.rest, most)
	r.skip(size, err)
	return s
}

// skip goes on behind what was taken.
func (r *reader) skip(size int, err api.Errno) {
	r.rest, r.failed = r.rest[size:], r.failed || err != api.OK
}

// ended tells whether all was taken, and nothing is left.
func (r *reader) ended() bool { return !r.failed && r.rest == "" }
