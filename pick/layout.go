package pick

import (
	"slices"

	"lectern/api"
)

// layout is the nodes of a document, each ahead of its kids; a node is spoken of by its place in it.
type layout []place

type place struct {
	node *api.Node
	path []int
	in   int // where the node stands whose kid this one is
	kids []int
}

// lay is the layout of a right document: so it isn't deep.
func lay(d *api.Node) layout {
	var l layout
	var add func(n *api.Node, path []int, in int)
	add = func(n *api.Node, path []int, in int) {
		at := len(l)
		l = append(l, place{node: n, path: path, in: in})
		for i := range n.Kids {
			l[at].kids = append(l[at].kids, len(l))
			add(&n.Kids[i], append(slices.Clone(path), i), at)
		}
	}
	add(d, nil, 0)
	return l
}

// next is what a step means, of the nodes that are meant.
func (l layout) next(meant []bool, s step) []bool {
	if s.deep {
		meant = l.spread(meant)
	}
	out := make([]bool, len(l))
	for i, p := range l {
		if !meant[i] {
			continue
		}
		for _, kid := range l.left(p.kids, s) {
			out[kid] = true
		}
	}
	return out
}

// spread is the nodes that are meant, and all below them.
func (l layout) spread(meant []bool) []bool {
	out := make([]bool, len(l))
	for i, p := range l {
		out[i] = meant[i] || out[p.in] // what it stands in comes ahead of it
	}
	return out
}

// left is which of a node's kids a step leaves.
func (l layout) left(kids []int, s step) []int {
	left := l.such(kids, s.test.fits)
	for _, c := range s.conditions {
		switch {
		case c.number == 0:
			left = l.such(left, c.holds)
		case c.number <= len(left):
			left = left[c.number-1 : c.number]
		default:
			left = nil
		}
	}
	return left
}

// such is which of some nodes are such.
func (l layout) such(nodes []int, is func(n *api.Node) bool) []int {
	var out []int
	for _, i := range nodes {
		if is(l[i].node) {
			out = append(out, i)
		}
	}
	return out
}
