package hedge

import (
	"slices"

	"lectern/api"
)

// leastFill is how many bytes the cells of a leaf take at least, if it isn't the root. A branch that takes as many has two kids or more, and so has each half of a branch, whatever it takes: so there are fewer branches than leaves.
const leastFill = nodeRoom / 4

// kid is a kid of a branch: its key there, its page, and what is to stand in this.
type kid struct {
	key  []byte
	page int
	node node
}

// settle lays what became of the leaf at the end of a path by a key that came, if one did, and of the branches above, as far as they change too.
func (h *Hedge) settle(l path, p node, came []byte) api.Errno {
	for i := len(l) - 1; i > 0; i-- {
		up, changed, e := h.settleKid(l[i-1], p, came)
		if e != api.OK || !changed {
			return e
		}
		p = up
	}
	return h.settleRoot(p, came)
}

// settleKid lays what became of a kid of a branch: in two pages, if one has no room for it, and together with a kid beside it, if it takes too little. It answers the branch, and whether that changed.
func (h *Hedge) settleKid(up step, p node, came []byte) (node, bool, api.Errno) {
	begin, end := up.at, up.at+1
	if p.size() < leastFill {
		var e api.Errno
		if begin, end, p, e = h.joined(up, p); e != api.OK {
			return node{}, false, e
		}
		came = nil // such are parted evenly
	}
	cells := up.node.cells
	var pages []int
	for _, c := range cells[begin:end] {
		pages = append(pages, c.kid())
	}
	kids, e := h.lay(kidsOf(cells[begin].key, p, came), pages)
	if e != api.OK {
		return node{}, false, e
	}
	up.node.cells = slices.Concat(cells[:begin], kidCells(kids), cells[end:])
	return up.node, len(pages) > 1 || len(kids) > 1, api.OK
}

// joined is a kid of a branch together with the one ahead of it or the one behind it, rather one with which one page is enough; and where in the branch both stand.
func (h *Hedge) joined(up step, p node) (begin, end int, whole node, e api.Errno) {
	begin, end, whole = up.at, up.at+1, p
	cells := up.node.cells
	for at := max(up.at-1, 0); at <= up.at && at+1 < len(cells); at++ {
		first, second := p, p
		if at < up.at {
			first, e = h.read(cells[at].kid())
		} else {
			second, e = h.read(cells[at+1].kid())
		}
		if e == api.OK && first.isLeaf != second.isLeaf {
			e = api.ErrForm
		}
		if e != api.OK {
			return 0, 0, node{}, e
		}
		both := first.join(cells[at+1].key, second)
		if both.fits() {
			return at, at + 2, both, api.OK
		}
		if end-begin == 1 {
			begin, end, whole = at, at+2, both
		}
	}
	return begin, end, whole, api.OK
}

// kidsOf is a node as kids of a branch: itself, or its halves.
func kidsOf(key []byte, p node, came []byte) []kid {
	if p.fits() {
		return []kid{{key: key, node: p}}
	}
	first, parting, second := p.halves(came)
	return []kid{{key: key, node: first}, {key: parting, node: second}}
}

// kidCells is what a branch says of kids.
func kidCells(kids []kid) []cell {
	var l []cell
	for _, k := range kids {
		l = append(l, kidCell(k.key, k.page))
	}
	return l
}

// lay writes kids into pages; where there are too few, more are taken, and where there are too many, they are freed.
func (h *Hedge) lay(kids []kid, pages []int) ([]kid, api.Errno) {
	for len(pages) < len(kids) {
		n, e := h.vault.Alloc()
		if e != api.OK {
			return nil, e
		}
		pages = append(pages, n)
	}
	if e := h.free(pages[len(kids):]...); e != api.OK {
		return nil, e
	}
	for i := range kids {
		kids[i].page = pages[i]
		if e := h.write(pages[i], kids[i].node); e != api.OK {
			return nil, e
		}
	}
	return kids, api.OK
}

// settleRoot lays what became of the root, whose page stays: what it has no room for goes into two others, and a kid that is alone comes in its place.
func (h *Hedge) settleRoot(p node, came []byte) api.Errno {
	if !p.fits() {
		kids, e := h.lay(kidsOf(nil, p, came), nil)
		if e != api.OK {
			return e
		}
		p = node{cells: kidCells(kids)}
	}
	if !p.isLeaf && len(p.cells) == 1 {
		n := p.cells[0].kid()
		q, e := h.read(n)
		if e != api.OK {
			return e
		}
		if e := h.free(n); e != api.OK {
			return e
		}
		p = q
	}
	return h.write(h.root, p)
}

// write lays a node into a page.
func (h *Hedge) write(n int, p node) api.Errno { return h.vault.Put(n, p.bytes()) }

// free lets pages go.
func (h *Hedge) free(pages ...int) api.Errno {
	for _, n := range pages {
		if e := h.vault.Free(n); e != api.OK {
			return e
		}
	}
	return api.OK
}
