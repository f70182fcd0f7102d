package hedge

import (
	"slices"
)

// halves parts a node that has no room in a page: the key is that of the second half in the branch above. What comes here takes so little more than a page that each half has room in one.
func (p node) halves() (node, []byte, node) {
	m := p.middle()
	// Their room ends with them: what one of them takes up later doesn't run into the other.
	first, second := p.cells[:m:m], p.cells[m:len(p.cells):len(p.cells)]
	key := second[0].key
	if p.isLeaf {
		key = parting(first[m-1].key, key)
	} else {
		second = slices.Concat([]cell{{nil, second[0].rest}}, second[1:])
	}
	return node{p.isLeaf, first}, key, node{p.isLeaf, second}
}

// middle is the place of the cell with which the second half begins, so that the halves are as even as can be.
func (p node) middle() int {
	whole, sum, at := p.size(), 0, 0
	for 2*sum+p.cells[at].size() < whole {
		sum += p.cells[at].size()
		at++
	}
	return at
}

// parting is the shortest key that stands behind a, and not behind b.
func parting(a, b []byte) []byte {
	n := 0
	for n < len(a) && n < len(b)-1 && a[n] == b[n] {
		n++
	}
	return b[:n+1]
}

// join is a node with one that stands behind it, whose key in the branch above is told.
func (p node) join(key []byte, q node) node {
	cells := append(p.cells, q.cells...)
	if !p.isLeaf {
		cells[len(p.cells)].key = key
	}
	return node{p.isLeaf, cells}
}
