package drum

import (
	"slices"

	"lectern/api"
)

// Fuse lets the power go off soon.
func (d *Drum) Fuse(steps int) api.Errno {
	switch {
	case d == nil:
		return api.ErrNil
	case steps < 0:
		return api.ErrArg
	}
	d.hasFuse, d.left = true, steps
	return api.OK
}

// Crash lets the power go off, and come back.
func (d *Drum) Crash(keep []bool) api.Errno {
	if d == nil {
		return api.ErrNil
	}
	for k := range min(len(d.loose), len(keep)) {
		if keep[k] {
			d.stand(k)
		}
	}
	// All other sectors are as they stand: they have no loose Write.
	for k := range len(d.loose) {
		n := d.loose[k].n
		d.now[n] = d.standing[n]
	}
	d.loose = nil
	d.hasFuse, d.left, d.down = false, 0, false
	return api.OK
}

// Down says whether the power is off.
func (d *Drum) Down() bool { return d != nil && d.down }

// Clone is the same drum once more.
func (d *Drum) Clone() *Drum {
	if d == nil {
		return nil
	}
	c := *d
	c.now, c.standing, c.loose = slices.Clone(d.now), slices.Clone(d.standing), slices.Clone(d.loose)
	return &c
}

// step is one step more, if there is power for it.
func (d *Drum) step() api.Errno {
	if d.hasFuse && d.left == 0 {
		d.down = true
	}
	if d.down {
		return api.ErrDown
	}
	if d.hasFuse {
		d.left--
	}
	d.steps++
	return api.OK
}
