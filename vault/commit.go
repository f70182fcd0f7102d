package vault

import (
	"lectern/api"
	"lectern/sheet"
	"lectern/tape"
)

// Commit makes the transaction last.
func (v *Vault) Commit() api.Errno {
	if e := v.refusal(true); e != api.OK {
		return e
	}
	g := layGroup(v.stamp+1, v.changed)
	v.close()
	if g.count() == 0 {
		return api.OK
	}
	return v.commit(g)
}

// Checkpoint empties the log.
func (v *Vault) Checkpoint() api.Errno {
	if e := v.refusal(false); e != api.OK {
		return e
	}
	return v.restart()
}

// commit appends a group to the log, and does it when no crash takes it any more.
func (v *Vault) commit(g Group) api.Errno {
	sectors := tape.Sectors(len(g))
	if sectors > v.plan.Log {
		return api.ErrFull
	}
	if sectors > v.log.Free() {
		if e := v.restart(); e != api.OK {
			return e
		}
	}
	if e := v.told(v.log.Append(g)); e != api.OK {
		return e
	}
	if e := v.told(v.log.Flush()); e != api.OK {
		return e
	}
	return v.do(g)
}

// do writes the pages of a group that stands on the log.
func (v *Vault) do(g Group) api.Errno {
	for n, p := range g.Pages() {
		if e := v.told(sheet.Put(v.disk, n, g.stamp(), p)); e != api.OK {
			return e
		}
		v.know(n, page(p))
	}
	v.stamp = g.stamp()
	return api.OK
}

// restart begins the next generation: its log is empty, as all pages stand.
func (v *Vault) restart() api.Errno {
	if v.gen >= maxGeneration {
		return api.ErrLimit
	}
	if e := v.told(v.disk.Flush()); e != api.OK {
		return e
	}
	return v.turn(v.gen + 1)
}

// turn makes a generation the vault's, by its head.
func (v *Vault) turn(gen int) api.Errno {
	if e := v.told(sheet.PutHead(v.disk, sheet.Head{Gen: gen, Stamp: v.stamp})); e != api.OK {
		return e
	}
	if e := v.told(v.disk.Flush()); e != api.OK {
		return e
	}
	log, _, e := v.tape(gen)
	if v.told(e) != api.OK {
		return e
	}
	v.gen, v.log = gen, log
	return api.OK
}
