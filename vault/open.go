package vault

import (
	"slices"

	"lectern/api"
	"lectern/cache"
	"lectern/drum"
	"lectern/sheet"
	"lectern/tape"
)

const (
	fewestFrames  = 4
	mostFrames    = 1024
	logBegin      = 2 // the log's first sector
	maxGeneration = 1<<32 - 1
)

// Open opens the vault on a drum.
func Open(d *drum.Drum, frames int) (*Vault, api.Errno) {
	switch {
	case d == nil:
		return nil, api.ErrNil
	case frames < fewestFrames, frames > mostFrames:
		return nil, api.ErrArg
	}
	plan, e := sheet.Draft(d.Sectors())
	if e != api.OK {
		return nil, e
	}
	kept, e := cache.New[int, page](frames)
	if e != api.OK {
		return nil, e
	}
	v := &Vault{disk: d, plan: plan, frames: frames, kept: kept, changed: map[int]page{}}
	if e := v.open(); e != api.OK {
		return nil, e
	}
	return v, api.OK
}

// open goes on from the newest head, if there is one.
func (v *Vault) open() api.Errno {
	head, e := sheet.GetHead(v.disk)
	switch e {
	case api.OK:
		return v.resume(head)
	case api.ErrForm:
		return v.start()
	}
	return e
}

// start begins the first generation, on a drum on which nothing stands.
func (v *Vault) start() api.Errno {
	isBlank, e := sheet.Blank(v.disk, MapPage)
	switch {
	case e != api.OK:
		return e
	case !isBlank:
		return api.ErrForm
	}
	return v.turn(1)
}

// resume does the groups of a head's generation, and begins the next one. What may be refused is asked ahead of the first Write.
func (v *Vault) resume(head sheet.Head) api.Errno {
	v.gen, v.stamp = head.Gen, head.Stamp
	_, l, e := v.tape(head.Gen)
	if e != api.OK {
		return e
	}
	groups, e := ReadGroups(l, head.Stamp, v.plan.Pages)
	if e != api.OK {
		return e
	}
	if head.Gen == maxGeneration {
		return api.ErrLimit
	}
	// A map that a crash tore is whole again behind the groups: one of them has it.
	if !slices.ContainsFunc(groups, Group.hasMap) {
		if _, e := v.read(MapPage); e != api.OK {
			return e
		}
	}
	for _, g := range groups {
		if e := v.do(g); e != api.OK {
			return e
		}
	}
	return v.restart()
}

// tape is the log of a generation, and the groups that stand on it.
func (v *Vault) tape(gen int) (*tape.Tape, [][]byte, api.Errno) {
	return tape.Open(v.disk, logBegin, logBegin+v.plan.Log, gen)
}
