package block_test

import (
	"math/rand"
	"slices"
	"testing"

	"tapestry/api"
	"tapestry/block"
)

// put is a write that a model has pending.
type put struct {
	block int
	data  string
}

// model is a disk as the chapter says it, in plain lists: each answer is worked out anew.
type model struct {
	safe    []string
	pending []put
	down    bool
	armed   int
	state   state
}

func newModel(blocks int) *model {
	return &model{safe: slices.Repeat([]string{of(0)}, blocks), state: state{up: true}}
}

// read is P3.2's, without what it refuses.
func (m *model) read(i int) string {
	s := m.safe[i]
	for _, p := range m.pending {
		if p.block == i {
			s = p.data
		}
	}
	return s
}

// act is P3.4's.
func (m *model) act() api.Errno {
	m.state.acts++
	if m.armed == 1 {
		m.armed, m.state.up = 0, false
		return api.ErrDead
	}
	if m.armed > 1 {
		m.armed--
	}
	return api.OK
}

func (m *model) write(i int, s string) api.Errno {
	if !m.state.up {
		return api.ErrDead
	}
	if i < 0 || i >= len(m.safe) || len(s) != 256 {
		return api.ErrArg
	}
	m.pending = append(m.pending, put{i, s})
	return m.act()
}

func (m *model) sync() api.Errno {
	if !m.state.up {
		return api.ErrDead
	}
	if m.act() == api.ErrDead {
		return api.ErrDead
	}
	for i := range m.safe {
		m.safe[i] = m.read(i)
	}
	m.pending = nil
	return api.OK
}

func (m *model) crash(keep []bool, torn, bytes int) {
	for k, p := range m.pending {
		b := []byte(m.safe[p.block])
		for i := range b {
			if k == torn && i < bytes || k != torn && k < len(keep) && keep[k] {
				b[i] = p.data[i]
			}
		}
		m.safe[p.block] = string(b)
	}
	m.pending, m.armed = nil, 0
	m.state.up = true
	m.state.epoch++
}

// same asks whether a disk tells what the model does.
func (m *model) same(t *testing.T, d *block.Dev) {
	t.Helper()
	var pending []int
	for _, p := range m.pending {
		pending = append(pending, p.block)
	}
	checkState(t, d, m.state, pending...)
	for i := range m.safe {
		if m.state.up {
			checkRead(t, d, i, m.read(i), api.OK)
		} else {
			checkRead(t, d, i, "", api.ErrDead)
		}
	}
	for _, i := range []int{-1, len(m.safe)} {
		if m.state.up {
			checkRead(t, d, i, "", api.ErrArg)
		} else {
			checkRead(t, d, i, "", api.ErrDead)
		}
	}
}

// bytes is a block of any bytes.
func bytes(r *rand.Rand) string {
	b := make([]byte, api.BlockSize)
	r.Read(b)
	return string(b)
}

// loss is what a Crash may be told of so many pending writes.
func loss(r *rand.Rand, pending int) (keep []bool, torn, n int) {
	keep = make([]bool, r.Intn(pending+3))
	for k := range keep {
		keep[k] = r.Intn(2) == 0
	}
	return keep, r.Intn(pending+3) - 1, r.Intn(api.BlockSize+20) - 10
}

// P3.1 to P3.6, of any calls one behind the other.
func TestAnyCalls(t *testing.T) {
	for seed := range 60 {
		r := rand.New(rand.NewSource(int64(seed)))
		blocks := api.MinBlocks + r.Intn(3)
		d, m := disk(t, blocks), newModel(blocks)
		for range 150 {
			switch r.Intn(12) {
			case 0:
				checkErr(t, "Sync", d.Sync(), m.sync())
			case 1:
				n := r.Intn(9) - 2
				d.Arm(n)
				m.armed = max(n, 0)
			case 2:
				keep, torn, n := loss(r, len(m.pending))
				d.Crash(keep, torn, n)
				m.crash(keep, torn, n)
			case 3:
				i, s := r.Intn(blocks+4)-2, bytes(r)[:r.Intn(api.BlockSize+1)]
				checkErr(t, "Write", d.Write(i, s), m.write(i, s))
			default:
				i, s := r.Intn(6)+r.Intn(2)*(blocks-6), bytes(r)
				checkErr(t, "Write", d.Write(i, s), m.write(i, s))
			}
			m.same(t, d)
			if t.Failed() {
				t.Fatalf("with the seed %d", seed)
			}
		}
	}
}

// P3.7: behind a Sync that was answered OK no Crash changes what is read.
func TestSyncedIsSafe(t *testing.T) {
	r := rand.New(rand.NewSource(1))
	for range 100 {
		d := disk(t, 40)
		var want [40]string
		for range r.Intn(60) {
			d.Write(r.Intn(40), bytes(r))
		}
		for i := range want {
			want[i], _ = d.Read(i)
		}
		checkErr(t, "Sync", d.Sync(), api.OK)
		for range 3 {
			keep, torn, n := loss(r, 3)
			d.Crash(keep, torn, n)
			for i := range want {
				checkRead(t, d, i, want[i], api.OK)
			}
		}
	}
}

// mixture tells whether a block is the first bytes of one of these and the others of another one.
func mixture(s string, of []string) bool {
	for _, a := range of {
		for _, b := range of {
			n := 0
			for n < len(s) && s[n] == a[n] {
				n++
			}
			if s[n:] == b[n:] {
				return true
			}
		}
	}
	return false
}

// P3.7: behind any Crash a block is what was safe, or was written to it since, but one at most.
func TestCrashLeavesWhatWasWritten(t *testing.T) {
	r := rand.New(rand.NewSource(2))
	mixtures := 0
	for range 300 {
		d := disk(t, 40)
		may := make([][]string, 40)
		write := func() {
			i, s := r.Intn(6), bytes(r)
			checkErr(t, "Write", d.Write(i, s), api.OK)
			may[i] = append(may[i], s)
		}
		for range r.Intn(12) {
			write()
		}
		checkErr(t, "Sync", d.Sync(), api.OK)
		for i := range may {
			s, _ := d.Read(i)
			may[i] = []string{s}
		}
		n := r.Intn(12)
		for range n {
			write()
		}
		d.Crash(loss(r, n))
		other := 0
		for i := range may {
			s, err := d.Read(i)
			checkErr(t, "Read", err, api.OK)
			if !slices.Contains(may[i], s) {
				other++
				if !mixture(s, may[i]) {
					t.Errorf("block %d is what nobody wrote", i)
				}
			}
		}
		if other > 1 {
			t.Errorf("%d blocks are mixtures", other)
		}
		mixtures += other
	}
	if mixtures == 0 {
		t.Error("no Crash tore a block at all")
	}
}
