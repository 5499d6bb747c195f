package merge

import (
	"iter"
	"slices"
	"strings"

	"tapestry/api"
)

// extra is how many bytes a version counts for beside its key and its value.
const extra = 16

// groups goes through versions, each with whether it is the first one of its group: of those that follow one another with one key.
func groups(s iter.Seq[api.Version]) iter.Seq2[api.Version, bool] {
	return func(yield func(api.Version, bool) bool) {
		key, begun := "", false
		for v := range through(s) {
			first := !begun || v.Key != key
			if first {
				// A copy, as the version itself is given away.
				key, begun = strings.Clone(v.Key), true
			}
			if !yield(v, first) {
				return
			}
		}
	}
}

// Keep goes through those that somebody may still see: whoever looks at one of these sequence numbers, or at the newest one; bottom: nothing older lies anywhere else.
func Keep(s iter.Seq[api.Version], floors []uint64, bottom bool) iter.Seq[api.Version] {
	rising := slices.Sorted(slices.Values(floors))
	return func(yield func(api.Version) bool) {
		var held []api.Version // such as are told only if one that is no Del is needed behind them
		ahead := uint64(0)
		for v, first := range groups(s) {
			if first {
				held = nil
			}
			needed := first || anyWithin(rising, v.Seq, ahead)
			ahead = v.Seq
			if !needed {
				continue
			}
			held = append(held, v)
			if bottom && v.Del {
				continue
			}
			for _, v := range held {
				if !yield(v) {
					return
				}
			}
			held = nil
		}
	}
}

// anyWithin tells whether one of some rising numbers is at least from, and below to.
func anyWithin(rising []uint64, from, to uint64) bool {
	at, _ := slices.BinarySearch(rising, from)
	return at < len(rising) && rising[at] < to
}

// Pairs goes through what is seen at a sequence number: keys from lo on, below hi ("": all).
func Pairs(s iter.Seq[api.Version], seq uint64, lo, hi string) iter.Seq[api.Pair] {
	lo, hi = strings.Clone(lo), strings.Clone(hi)
	return func(yield func(api.Pair) bool) {
		found := false // was the version of this group that is seen already there?
		for v, first := range groups(s) {
			if hi != "" && v.Key >= hi {
				return
			}
			if first {
				found = false
			}
			if found || v.Key < lo || v.Seq > seq {
				continue
			}
			found = true
			if !v.Del && !yield(api.Pair{Key: v.Key, Value: v.Value}) {
				return
			}
		}
	}
}

// Cut goes through lists of versions, one behind the other, each of which has at least so many bytes (but the last one), and all versions of its keys.
func Cut(s iter.Seq[api.Version], bytes int) iter.Seq[[]api.Version] {
	return func(yield func([]api.Version) bool) {
		var list []api.Version
		size := 0
		for v, first := range groups(s) {
			if first && len(list) > 0 && size >= bytes {
				if !yield(list) {
					return
				}
				list, size = nil, 0
			}
			list = append(list, v)
			size += len(v.Key) + len(v.Value) + extra
		}
		if len(list) > 0 {
			yield(list)
		}
	}
}
