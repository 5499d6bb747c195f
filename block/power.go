package block

import "tapestry/api"

// Arm lets the power go at the n-th act from now on; 0 and below: at none.
func (d *Dev) Arm(n int) {
	if d == nil {
		return
	}
	d.armed = max(n, 0)
}

// act counts an act, and tells whether the power stays on in it.
func (d *Dev) act() api.Errno {
	d.acts++
	if d.armed == 0 {
		return api.OK
	}
	d.armed--
	if d.armed > 0 {
		return api.OK
	}
	d.down = true
	return api.ErrDead
}

// Up tells whether there is power.
func (d *Dev) Up() bool { return d != nil && !d.down }

// Crash is a loss of power, and its return: of the writes that weren't safe these are kept; one is torn: of its bytes so many.
func (d *Dev) Crash(keep []bool, torn, bytes int) {
	if d == nil {
		return
	}
writes:
	for k, w := range d.pending {
		done := api.BlockSize
		switch {
		case k == torn: // asked first: a torn write is not kept whole, whatever keep says
			done = min(max(bytes, 0), api.BlockSize)
		case k >= len(keep) || !keep[k]:
			continue writes
		}
		d.do(w, done)
	}
	d.settle()
	d.down, d.armed = false, 0
	d.epoch++
}

// Acts is how many acts there were.
func (d *Dev) Acts() int {
	if d == nil {
		return 0
	}
	return d.acts
}

// Epoch is how many crashes there were.
func (d *Dev) Epoch() int {
	if d == nil {
		return 0
	}
	return d.epoch
}
