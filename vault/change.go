package vault

import (
	"lectern/api"
)

// Begin opens a transaction.
func (v *Vault) Begin() api.Errno {
	if e := v.refusal(false); e != api.OK {
		return e
	}
	v.busy = true
	return api.OK
}

// Alloc takes a page.
func (v *Vault) Alloc() (int, api.Errno) {
	if e := v.refusal(true); e != api.OK {
		return 0, e
	}
	n, ok := v.firstFree()
	switch {
	case !ok:
		return 0, api.ErrFull
	case !v.hasRoom(len(v.changed) + v.unchanged(n, MapPage)):
		return 0, api.ErrLimit
	}
	v.changed[n] = page{}
	v.mark(n, true)
	return n, api.OK
}

// Free lets a page go.
func (v *Vault) Free(n int) api.Errno {
	if e := v.refusal(true); e != api.OK {
		return e
	}
	others := len(v.changed) + v.unchanged(n) - 1
	switch {
	case !v.isTaken(n):
		return api.ErrArg
	case !v.hasRoom(others + v.unchanged(MapPage)):
		return api.ErrLimit
	}
	delete(v.changed, n)
	v.mark(n, false)
	return api.OK
}

// Put changes a page.
func (v *Vault) Put(n int, p []byte) api.Errno {
	if e := v.refusal(true); e != api.OK {
		return e
	}
	switch {
	case !v.isTaken(n):
		return api.ErrArg
	case len(p) > api.PageSize:
		return api.ErrLong
	case !v.hasRoom(len(v.changed) + v.unchanged(n)):
		return api.ErrLimit
	}
	var whole page
	copy(whole[:], p)
	v.changed[n] = whole
	return api.OK
}

// Abort undoes the transaction.
func (v *Vault) Abort() api.Errno {
	if e := v.refusal(true); e != api.OK {
		return e
	}
	v.close()
	return api.OK
}

// close closes the transaction, and forgets what it changed.
func (v *Vault) close() {
	clear(v.changed)
	v.busy = false
}

// hasRoom says whether there may be so many changed pages.
func (v *Vault) hasRoom(changed int) bool { return changed <= v.frames-1 }

// unchanged is how many of these pages aren't changed.
func (v *Vault) unchanged(pages ...int) int {
	count := 0
	for _, n := range pages {
		if _, ok := v.changed[n]; !ok {
			count++
		}
	}
	return count
}
