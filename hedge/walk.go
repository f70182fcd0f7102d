package hedge

import (
	"lectern/api"
)

// deepest is a bound for pages that no hedge wrote, which may go round: a hedge that fills the greatest drum has less than half as many levels.
const deepest = 24

// step is a node on the way from the root to a leaf: its page, and which of its kids is the next one.
type step struct {
	page int
	node node
	at   int
}

// path is the way from the root to the leaf where a key belongs.
type path []step

// leaf is the node at the end of a path.
func (l path) leaf() node { return l[len(l)-1].node }

// pair is the cell of a key at the end of its path, and whether there is one.
func (l path) pair(k []byte) (cell, bool) {
	p := l.leaf()
	at, found := p.find(k)
	if !found {
		return cell{}, false
	}
	return p.cells[at], true
}

// path is the way to the leaf where a key belongs.
func (h *Hedge) path(k []byte) (path, api.Errno) {
	var l path
	n := h.root
	for range deepest {
		p, e := h.read(n)
		if e != api.OK {
			return nil, e
		}
		if p.isLeaf {
			return append(l, step{page: n, node: p}), api.OK
		}
		at := p.way(k)
		l = append(l, step{n, p, at})
		n = p.cells[at].kid()
	}
	return nil, api.ErrForm
}

// walk shows the nodes of a hedge with their pages, each ahead of its kids, but for those all of whose keys stand ahead of k; till visit wants no more, as it does beside an error.
func (h *Hedge) walk(k []byte, visit func(n int, p node) (bool, api.Errno)) api.Errno {
	seen := map[int]struct{}{}
	var below func(n int) (bool, api.Errno)
	below = func(n int) (bool, api.Errno) {
		if _, ok := seen[n]; ok { // pages that no hedge wrote may go round
			return false, api.ErrForm
		}
		seen[n] = struct{}{}
		p, e := h.read(n)
		if e != api.OK {
			return false, e
		}
		more, e := visit(n, p)
		if p.isLeaf {
			return more, e
		}
		for _, c := range p.cells[p.way(k):] {
			if !more {
				break
			}
			more, e = below(c.kid())
		}
		return more, e
	}
	_, e := below(h.root)
	return e
}

// read is the node in a page.
func (h *Hedge) read(n int) (node, api.Errno) {
	b, e := h.page(n)
	if e != api.OK {
		return node{}, e
	}
	p, ok := readNode(b)
	if !ok {
		return node{}, api.ErrForm
	}
	return p, api.OK
}

// page is what stands in a page. That it isn't taken is the caller's fault only if it is the root: no hedge tells of another such page.
func (h *Hedge) page(n int) ([]byte, api.Errno) {
	b, e := h.vault.Get(n)
	if e == api.ErrArg && n != h.root {
		return nil, api.ErrForm
	}
	return b, e
}
