package hedge

import (
	"slices"
)

// halves parts a node that has no room in a page: the key is that of the second half in the branch above. What comes here takes so little more than a page that each half has room in one. Behind a key that came the next ones come mostly: if it is in the second half, the first one goes on till there, as nearly as can be, so that what is left behind is fuller than a half.
func (p node) halves(came []byte) (node, []byte, node) {
	m := p.middle()
	if came != nil {
		m = p.onward(m, p.way(came)+1)
	}
	return p.part(m)
}

// part parts a node ahead of the cell at a place.
func (p node) part(m int) (node, []byte, node) {
	// Their room ends with them: what one of them takes up later doesn't run into the other.
	first, second := p.cells[:m:m], p.cells[m:len(p.cells):len(p.cells)]
	key := second[0].key
	if p.isLeaf {
		key = parting(first[m-1].key, key)
	} else {
		second = slices.Concat([]cell{{nil, second[0].rest}}, second[1:])
	}
	return node{p.isLeaf, first}, key, node{p.isLeaf, second}
}

// onward is a place behind one, up to another, as far as both parts have room, and neither takes too little.
func (p node) onward(m, end int) int {
	for m < end && p.mayPart(m+1) {
		m++
	}
	return m
}

// mayPart says whether a node may be parted ahead of the cell at a place.
func (p node) mayPart(m int) bool {
	if m >= len(p.cells) {
		return false
	}
	first, _, second := p.part(m)
	least := min(first.size(), second.size())
	return first.fits() && second.fits() && least >= leastFill
}

// middle is the place of the cell with which the second half begins, so that the halves are as even as can be.
func (p node) middle() int {
	whole, sum, at := p.size(), 0, 0
	for 2*sum+p.cells[at].size() < whole {
		sum += p.cells[at].size()
		at++
	}
	return at
}

// parting is the shortest key that stands behind a, and not behind b.
func parting(a, b []byte) []byte {
	n := 0
	for n < len(a) && n < len(b)-1 && a[n] == b[n] {
		n++
	}
	return b[:n+1]
}

// join is a node with one that stands behind it, whose key in the branch above is told.
func (p node) join(key []byte, q node) node {
	cells := append(p.cells, q.cells...)
	if !p.isLeaf {
		cells[len(p.cells)].key = key
	}
	return node{p.isLeaf, cells}
}
