package files

import (
	"iter"
	"maps"
	"slices"
	"strings"

	"tapestry/api"
	"tapestry/block"
)

const headBytes = 8 // of a Generation, at each end of a head

// put is a write that a block is to get.
type put struct {
	block int
	data  string
}

// plan is what a commit is to do.
type plan struct {
	root  api.Root
	bytes string // the root's
	puts  []put  // of the new blocks
}

// Commit makes all that was changed safe, at one time.
func (f *FS) Commit() api.Errno {
	if err := f.refusal(); err != api.OK || !f.changed {
		return err
	}
	p, err := f.plan()
	if err != api.OK {
		return err
	}
	if err := p.save(f.disk); err != api.OK {
		return err
	}
	f.safe = p.root
	f.Revert()
	return api.OK
}

// plan works out a commit of what is at hand.
func (f *FS) plan() (plan, api.Errno) {
	need := 0
	for _, h := range f.hand {
		need += blocksOf(h.size()) - h.kept()
	}
	room, ok := f.take(need)
	if !ok {
		return plan{}, api.ErrFull
	}
	next, puts := api.Root{Generation: f.safe.Generation + 1}, []put(nil)
	for _, name := range slices.Sorted(maps.Keys(f.hand)) {
		h := f.hand[name]
		blocks := slices.Clone(h.blocks[:h.kept()])
		s, err := f.bytes(h, min(len(blocks)*api.BlockSize, h.size()), h.size())
		if err != api.OK {
			return plan{}, err
		}
		for data := range pieces(s) {
			b := room[len(puts)]
			blocks, puts = append(blocks, b), append(puts, put{b, data})
		}
		next.Files = append(next.Files, api.File{Name: name, Size: h.size(), Blocks: blocks})
	}
	return newPlan(next, puts, f.disk.Blocks())
}

// newPlan is one that makes a root the safe one; ErrFull: a slot doesn't hold it, or its Generation is one too many.
func newPlan(r api.Root, puts []put, blocks int) (plan, api.Errno) {
	s, err := EncodeRoot(r, blocks)
	if err != api.OK {
		return plan{}, api.ErrFull
	}
	return plan{r, s, puts}, api.OK
}

// kept is how many of its blocks a file keeps: a last one with room in it is left for good when there are new bytes, as nothing that is safe may be written over.
func (h *file) kept() int {
	if len(h.fresh) == 0 {
		return len(h.blocks)
	}
	return h.old / api.BlockSize
}

// take is the first so many blocks that a commit may take; false: there are too few.
func (f *FS) take(n int) ([]int, bool) {
	var l []int
	for b := range f.room() {
		if len(l) == n {
			break
		}
		l = append(l, b)
	}
	return l, len(l) == n
}

// pieces goes through bytes block by block, with noughts behind them up to a whole one.
func pieces(s string) iter.Seq[string] {
	return func(yield func(string) bool) {
		for at := 0; at < len(s); at += api.BlockSize {
			piece := s[at:min(at+api.BlockSize, len(s))]
			if !yield(piece + strings.Repeat("\x00", api.BlockSize-len(piece))) {
				return
			}
		}
	}
}

// save does it: the head is written when all that it stands for is safe.
func (p plan) save(d *block.Dev) api.Errno {
	first := slotOf(p.root.Generation)
	puts, at := p.puts, first
	for data := range pieces(p.bytes) {
		at++
		puts = append(puts, put{at, data})
	}
	if err := write(d, puts...); err != api.OK {
		return err
	}
	return write(d, put{first, head(p.root.Generation)})
}

// write does writes, one behind the other, and makes them safe.
func write(d *block.Dev, puts ...put) api.Errno {
	for _, p := range puts {
		if err := d.Write(p.block, p.data); err != api.OK {
			return err
		}
	}
	return d.Sync()
}

// slotOf is the first block of a Generation's slot.
func slotOf(generation uint64) int { return int(generation%slots) * api.RootBlocks }

// head is the block by which a slot is a Generation's: both its ends are written, so that a torn one is none.
func head(generation uint64) string {
	var b [api.BlockSize]byte
	for i := range headBytes {
		c := byte(generation >> (8 * (headBytes - 1 - i)))
		b[i], b[len(b)-headBytes+i] = c, c
	}
	return string(b[:])
}

// heads are the Generations whose heads a disk has, the greatest one first.
func heads(d *block.Dev) []uint64 {
	var l []uint64
	for slot := range slots {
		first := slot * api.RootBlocks
		s, _ := d.Read(first)
		g := uint64(0)
		for _, c := range []byte(s[:min(headBytes, len(s))]) {
			g = g<<8 | uint64(c)
		}
		if g >= 1 && g <= lastOf && slotOf(g) == first && s == head(g) {
			l = append(l, g)
		}
	}
	slices.Sort(l)
	slices.Reverse(l)
	return l
}

// body is what a Generation's slot has behind its head.
func body(d *block.Dev, generation uint64) string {
	var b strings.Builder
	for i := 1; i < api.RootBlocks; i++ {
		s, _ := d.Read(slotOf(generation) + i)
		b.WriteString(s)
	}
	return b.String()
}
