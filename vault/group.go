package vault

import (
	"iter"
	"maps"
	"slices"

	"lectern/api"
	"lectern/octet"
)

const (
	countSize  = 2
	stampSize  = 8
	numberSize = 4
	groupAhead = countSize + stampSize
	partSize   = numberSize + api.PageSize // what a page takes in a group
)

// Group is the bytes of a transaction on the log.
type Group []byte

// ReadGroups is the groups of the bytes that stand on a log behind a head of that stamp, in a plan of so many pages; ErrForm, if one of them isn't right.
func ReadGroups(log [][]byte, stamp uint64, pages int) ([]Group, api.Errno) {
	var l []Group
	for i, b := range log {
		g := Group(b)
		if !g.isRight(stamp+uint64(i)+1, pages) {
			return nil, api.ErrForm
		}
		l = append(l, g)
	}
	return l, api.OK
}

// layGroup is the group of a transaction.
func layGroup(stamp uint64, changed map[int]page) Group {
	g := slices.Concat(octet.Bytes(uint64(len(changed)), countSize), octet.Bytes(stamp, stampSize))
	for _, n := range slices.Sorted(maps.Keys(changed)) {
		p := changed[n]
		g = append(g, octet.Bytes(uint64(n), numberSize)...)
		g = append(g, p[:]...)
	}
	return g
}

// count is how many pages g has, as it says itself.
func (g Group) count() int { return int(octet.Number(g[:countSize])) }

// stamp is the stamp of g's transaction.
func (g Group) stamp() uint64 { return octet.Number(g[countSize:groupAhead]) }

// Pages is the pages of g with their numbers, as they stand in it.
func (g Group) Pages() iter.Seq2[int, []byte] {
	return func(yield func(int, []byte) bool) {
		for rest := g[min(groupAhead, len(g)):]; len(rest) >= partSize; rest = rest[partSize:] {
			if !yield(int(octet.Number(rest[:numberSize])), rest[numberSize:partSize]) {
				return
			}
		}
	}
}

// isRight says whether g may be the group of a transaction with a stamp, in a plan of so many pages.
func (g Group) isRight(stamp uint64, pages int) bool {
	if len(g) < groupAhead || g.count() == 0 || len(g) != groupAhead+g.count()*partSize || g.stamp() != stamp {
		return false
	}
	last := -1
	for n := range g.Pages() {
		if n <= last || n >= pages {
			return false
		}
		last = n
	}
	return true
}

// hasMap says whether the map is among the pages of g.
func (g Group) hasMap() bool {
	for n := range g.Pages() {
		if n == MapPage {
			return true
		}
	}
	return false
}
