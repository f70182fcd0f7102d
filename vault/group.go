package vault

import (
	"iter"
	"maps"
	"slices"

	"lectern/api"
	"lectern/octet"
)

const (
	countSize  = 2
	stampSize  = 8
	numberSize = 4
	groupAhead = countSize + stampSize
	partSize   = numberSize + api.PageSize // what a page takes in a group
)

// group is the bytes of a transaction on the log.
type group []byte

// layGroup is the group of a transaction.
func layGroup(stamp uint64, changed map[int]page) group {
	g := slices.Concat(octet.Bytes(uint64(len(changed)), countSize), octet.Bytes(stamp, stampSize))
	for _, n := range slices.Sorted(maps.Keys(changed)) {
		p := changed[n]
		g = append(g, octet.Bytes(uint64(n), numberSize)...)
		g = append(g, p[:]...)
	}
	return g
}

// count is how many pages g has, as it says itself.
func (g group) count() int { return int(octet.Number(g[:countSize])) }

// stamp is the stamp of g's transaction.
func (g group) stamp() uint64 { return octet.Number(g[countSize:groupAhead]) }

// pages is the pages of g with their numbers, as they stand in it.
func (g group) pages() iter.Seq2[int, []byte] {
	return func(yield func(int, []byte) bool) {
		for part := range slices.Chunk(g[groupAhead:], partSize) {
			if !yield(int(octet.Number(part[:numberSize])), part[numberSize:]) {
				return
			}
		}
	}
}

// isRight says whether g may be the group of a transaction with a stamp, in a plan of so many pages.
func (g group) isRight(stamp uint64, pages int) bool {
	if len(g) < groupAhead || g.count() == 0 || len(g) != groupAhead+g.count()*partSize || g.stamp() != stamp {
		return false
	}
	last := -1
	for n := range g.pages() {
		if n <= last || n >= pages {
			return false
		}
		last = n
	}
	return true
}

// hasMap says whether the map is among the pages of g.
func (g group) hasMap() bool {
	for n := range g.pages() {
		if n == mapPage {
			return true
		}
	}
	return false
}
