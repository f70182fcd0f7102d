package hedge

import (
	"bytes"
	"slices"

	"lectern/api"
	"lectern/octet"
)

// A node stands in a page: a byte that says of what kind it is, one that says how many cells it has, and these. A cell is a byte that says how long its key is, the key, and the rest.
const (
	leafKind   = 1
	branchKind = 2
	nodeAhead  = 2
	nodeRoom   = api.PageSize - nodeAhead
	numberSize = 4
)

// cell is a key with what belongs to it: of a leaf a pair, whose rest says the value; of a branch a kid, whose rest is the number of its page. None of the kid's keys stands ahead of a branch's key, none of those of the kids ahead behind it; the first one is empty.
type cell struct{ key, rest []byte }

// node is a leaf, or a branch; its keys rise.
type node struct {
	isLeaf bool
	cells  []cell
}

// size is how many bytes a cell takes.
func (c cell) size() int { return 1 + len(c.key) + len(c.rest) }

// kid is the page of a branch's cell.
func (c cell) kid() int { return int(octet.Number(c.rest)) }

// kidCell is the cell of a kid.
func kidCell(key []byte, page int) cell {
	return cell{key, octet.Bytes(uint64(page), numberSize)}
}

// readNode is the node that stands in a page, and whether one does.
func readNode(b []byte) (node, bool) {
	p := node{isLeaf: b[0] == leafKind}
	if !p.isLeaf && b[0] != branchKind {
		return node{}, false
	}
	row := b[nodeAhead:]
	for range b[1] {
		c, behind, ok := p.readCell(row)
		if !ok || !p.goesOn(c) {
			return node{}, false
		}
		p.cells, row = append(p.cells, c), behind
	}
	return p, p.isLeaf || len(p.cells) > 0
}

// readCell is the cell of p with which a row of bytes begins, what stands behind it, and whether there is one.
func (p node) readCell(row []byte) (cell, []byte, bool) {
	if len(row) == 0 {
		return cell{}, nil, false
	}
	ahead := 1 + int(row[0])
	if len(row) <= ahead {
		return cell{}, nil, false
	}
	size := numberSize
	if p.isLeaf {
		size = valueSize(row[ahead])
	}
	if behind := ahead + size; behind <= len(row) {
		c := cell{row[1:ahead:ahead], row[ahead:behind:behind]}
		return c, row[behind:], !p.isLeaf || c.isValue()
	}
	return cell{}, nil, false
}

// goesOn says whether p may go on with a cell.
func (p node) goesOn(c cell) bool {
	if len(p.cells) == 0 {
		return p.isLeaf == (len(c.key) > 0) && len(c.key) <= api.MaxKey
	}
	return bytes.Compare(p.last().key, c.key) < 0 && len(c.key) <= api.MaxKey
}

// bytes is what stands in p's page.
func (p node) bytes() []byte {
	kind := byte(branchKind)
	if p.isLeaf {
		kind = leafKind
	}
	b := []byte{kind, byte(len(p.cells))}
	for _, c := range p.cells {
		b = append(b, byte(len(c.key)))
		b = append(b, c.key...)
		b = append(b, c.rest...)
	}
	return b
}

// size is how many bytes the cells of p take.
func (p node) size() int {
	sum := 0
	for _, c := range p.cells {
		sum += c.size()
	}
	return sum
}

// fits says whether p has room in a page.
func (p node) fits() bool { return p.size() <= nodeRoom }

// last is the last cell of p.
func (p node) last() cell { return p.cells[len(p.cells)-1] }

// find is the place of the first cell of p whose key doesn't stand ahead of k, and whether it is k.
func (p node) find(k []byte) (int, bool) {
	return slices.BinarySearchFunc(p.cells, k, func(c cell, k []byte) int { return bytes.Compare(c.key, k) })
}

// way is the place of the kid of a branch where k belongs.
func (p node) way(k []byte) int {
	at, found := p.find(k)
	if !found {
		at--
	}
	return at
}

// pairsFrom is the pairs of p from a key on: a branch has none.
func (p node) pairsFrom(k []byte) []cell {
	if !p.isLeaf {
		return nil
	}
	at, _ := p.find(k)
	return p.cells[at:]
}

// with is p with a cell, in the place of the one with its key, if there is one.
func (p node) with(c cell) node {
	at, found := p.find(c.key)
	behind := at
	if found {
		behind++
	}
	p.cells = slices.Concat(p.cells[:at], []cell{c}, p.cells[behind:])
	return p
}

// without is p without the cell of a key.
func (p node) without(k []byte) node {
	p.cells = slices.DeleteFunc(slices.Clone(p.cells), func(c cell) bool { return bytes.Equal(c.key, k) })
	return p
}
