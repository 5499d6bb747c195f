package files

import (
	"math"
	"strings"

	"tapestry/api"
	"tapestry/codec"
	"tapestry/frame"
)

const (
	slots     = 2
	fileFirst = slots * api.RootBlocks // the first block for files' bytes
	bodyBytes = (api.RootBlocks - 1) * api.BlockSize
	lastOf    = 1 << 62 // the last Generation that a root may have
)

// EncodeRoot is a root as bytes, of a disk of so many blocks.
func EncodeRoot(r api.Root, blocks int) (string, api.Errno) {
	if !mayBe(r, blocks) {
		return "", api.ErrArg
	}
	var load strings.Builder
	load.WriteString(codec.PutUint(r.Generation) + putCount(len(r.Files)))
	for _, f := range r.Files {
		load.WriteString(codec.PutText(f.Name) + putCount(f.Size) + putRuns(f.Blocks))
	}
	s, err := frame.Put(api.Frame{Kind: api.FrameRoot, Load: load.String()})
	if err != api.OK || len(s) > bodyBytes {
		return "", api.ErrFull
	}
	return s, api.OK
}

// DecodeRoot reads it.
func DecodeRoot(s string, blocks int) (api.Root, api.Errno) {
	f, n, err := frame.Take(s)
	if err != api.OK {
		return api.Root{}, api.ErrForm
	}
	r := (&taker{rest: f.Load}).root()
	// Put again, it must give the same bytes: so all that EncodeRoot refuses, or writes in another way, is refused here.
	again, err := EncodeRoot(r, blocks)
	if err != api.OK || again != s[:n] {
		return api.Root{}, api.ErrForm
	}
	return r, api.OK
}

// mayBe tells whether a root may be on a disk of so many blocks.
func mayBe(r api.Root, blocks int) bool {
	if r.Generation < 1 || r.Generation > lastOf || len(r.Files) > api.MaxFiles {
		return false
	}
	used := make([]bool, min(max(blocks, 0), api.MaxBlocks))
	for i, f := range r.Files {
		rises := i == 0 || r.Files[i-1].Name < f.Name
		if !rises || !isName(f.Name) || f.Size < 0 || len(f.Blocks) != blocksOf(f.Size) {
			return false
		}
		for _, b := range f.Blocks {
			if b < fileFirst || b >= len(used) || used[b] {
				return false
			}
			used[b] = true
		}
	}
	return true
}

// isName tells whether a file may be called so.
func isName(s string) bool { return len(s) >= 1 && len(s) <= api.MaxName }

// blocksOf is how many blocks so many bytes take.
func blocksOf(size int) int {
	n := size / api.BlockSize
	if size%api.BlockSize > 0 {
		n++
	}
	return n
}

// putCount is a number that is not below 0 as bytes.
func putCount(n int) string { return codec.PutUint(uint64(n)) }

// putRuns is a file's blocks as bytes.
func putRuns(blocks []int) string {
	var b strings.Builder
	runs := 0
	for first := 0; first < len(blocks); runs++ {
		end := first + 1
		for end < len(blocks) && blocks[end] == blocks[end-1]+1 {
			end++
		}
		b.WriteString(putCount(blocks[first]) + putCount(end-first))
		first = end
	}
	return putCount(runs) + b.String()
}

// taker takes what bytes say, one thing behind the other; from the first fault on all is nought.
type taker struct {
	rest string
	bad  bool
}

// root takes one; it is none that may be, if there is a fault.
func (t *taker) root() api.Root {
	r := api.Root{Generation: t.number(lastOf)}
	for range t.count(api.MaxFiles) {
		r.Files = append(r.Files, api.File{Name: t.text(api.MaxName), Size: t.count(math.MaxInt), Blocks: t.runs()})
	}
	if t.bad {
		return api.Root{}
	}
	return r
}

// runs takes a file's blocks.
func (t *taker) runs() []int {
	var blocks []int
	for range t.count(len(t.rest)) {
		first, n := t.count(api.MaxBlocks), t.count(api.MaxBlocks-len(blocks))
		for i := range n {
			blocks = append(blocks, first+i)
		}
	}
	return blocks
}

// number takes one of at most so much.
func (t *taker) number(most uint64) uint64 {
	n, k, err := codec.TakeUint(t.rest)
	if t.bad || err != api.OK || n > most {
		t.bad = true
		return 0
	}
	t.rest = t.rest[k:]
	return n
}

// count takes a number of things, of at most so many.
func (t *taker) count(most int) int { return int(t.number(uint64(most))) }

// text takes one of at most so many bytes.
func (t *taker) text(most int) string {
	s, k, err := codec.TakeText(t.rest, most)
	if t.bad || err != api.OK {
		t.bad = true
		return ""
	}
	t.rest = t.rest[k:]
	return s
}
