package table

import (
	"iter"
	"slices"
	"strings"

	"tapestry/api"
	"tapestry/bloom"
	"tapestry/codec"
	"tapestry/frame"
)

const (
	leastBlock = 64
	mostBlock  = 4096
	mostBits   = 20      // of a filter, for each key
	mostBytes  = 1 << 24 // of a table
	endBytes   = 4       // behind the foot: where that begins
)

// Build is a table as bytes.
func Build(block, bits int, l []api.Version) (string, api.Errno) {
	if block < leastBlock || block > mostBlock || bits < 0 || bits > mostBits || len(l) == 0 {
		return "", api.ErrArg
	}
	if err := check(l); err != api.OK {
		return "", err
	}
	data, index := putBlocks(block, l)
	filter := bloom.Build(bits, keys(l)...)
	if len(filter) > api.MaxFrame || len(index) > api.MaxFrame {
		return "", api.ErrFull
	}
	filterAt := len(data)
	s := data + put(api.FrameFilter, filter)
	indexAt := len(s)
	s += put(api.FrameIndex, index)
	end := putEnd(len(s))
	s += put(api.FrameFoot, putFoot(foot{
		filterAt: uint64(filterAt),
		indexAt:  uint64(indexAt),
		versions: uint64(len(l)),
		least:    l[0].Key,
		greatest: l[len(l)-1].Key,
	})) + end
	if len(s) > mostBytes {
		return "", api.ErrFull
	}
	return s, api.OK
}

// put is a frame as bytes, of a load that isn't too long for one.
func put(kind uint8, load string) string {
	s, _ := frame.Put(api.Frame{Kind: kind, Load: load})
	return s
}

// putBlocks are the data blocks' frames of versions, and what the index of them bears.
func putBlocks(block int, l []api.Version) (string, string) {
	var data, spans strings.Builder
	blocks, seen := 0, 0
	for many, load := range cut(block, l) {
		f := put(api.FrameData, load)
		blocks, seen = blocks+1, seen+many
		for _, n := range []int{data.Len(), len(f), many} {
			spans.WriteString(codec.PutUint(uint64(n)))
		}
		spans.WriteString(codec.PutText(EncodeKey(l[seen-1])))
		data.WriteString(f)
	}
	return data.String(), codec.PutUint(uint64(blocks)) + spans.String()
}

// cut goes through the blocks that versions make: of each how many versions it has, and its bytes.
func cut(block int, l []api.Version) iter.Seq2[int, string] {
	return func(yield func(int, string) bool) {
		var w writer
		for _, v := range l {
			w.add(v)
			if len(w.bytes) < block {
				continue
			}
			if !yield(w.many, string(w.bytes)) {
				return
			}
			w = writer{}
		}
		if w.many > 0 {
			yield(w.many, string(w.bytes))
		}
	}
}

// keys are those of versions in order, each once.
func keys(l []api.Version) []string {
	var keys []string
	for _, v := range l {
		keys = append(keys, v.Key)
	}
	return slices.Compact(keys)
}

// foot is what a table's foot bears.
type foot struct {
	filterAt, indexAt, versions uint64
	least, greatest             string
}

// putFoot is a foot as bytes.
func putFoot(f foot) string {
	return codec.PutUint(f.filterAt) + codec.PutUint(f.indexAt) + codec.PutUint(f.versions) + codec.PutText(f.least) + codec.PutText(f.greatest)
}

// takeFoot reads it; false: these are no foot's bytes.
func takeFoot(load string) (foot, bool) {
	r := reader{rest: load}
	f := foot{filterAt: r.number(), indexAt: r.number(), versions: r.number(), least: r.text(api.MaxKey), greatest: r.text(api.MaxKey)}
	return f, r.ended()
}

// putEnd is a table's last bytes, which tell where its foot begins: the lowest one first.
func putEnd(at int) string {
	var b [endBytes]byte
	for i := range b {
		b[i] = byte(at >> (8 * i))
	}
	return string(b[:])
}

// takeEnd reads them.
func takeEnd(s string) uint64 {
	at := uint64(0)
	for i := range len(s) {
		at |= uint64(s[i]) << (8 * i)
	}
	return at
}
