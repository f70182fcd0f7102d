package shelf

import (
	"bytes"
	"iter"
	"slices"

	"lectern/api"
	"lectern/hedge"
	"lectern/label"
	"lectern/octet"
)

// lastDoc is the greatest number of a document.
const lastDoc = 1<<32 - 1

// docSize is how many bytes a document's number takes at the begin of a key; behind it stand the bytes of a node's label: so the pairs of a document stand together, each node ahead of its kids.
const docSize = 4

// piece is how many pairs are asked for at once, so that few are read that are another document's.
const piece = 32

// keyOf is the key of the node whose label has these bytes.
func keyOf(doc int, b []byte) []byte {
	return slices.Concat(octet.Bytes(uint64(doc), docSize), b)
}

// docOf is the document of a key, and whether it says one.
func docOf(key []byte) (int, bool) {
	if len(key) < docSize {
		return 0, false
	}
	return int(octet.Number(key[:docSize])), true
}

// row is a node of a document as it stands in the hedge.
type row struct {
	label []int
	key   []byte
	value []byte
}

// rows is the nodes of a document, each ahead of its kids: the document itself is the first one.
type rows []row

// rows is what stands of a document: nothing, if there is none.
func (s *Shelf) rows(doc int) (rows, api.Errno) {
	var l rows
	for p, e := range s.pairs(keyOf(doc, nil)) {
		if e != api.OK {
			return nil, e
		}
		numbers, e := label.Read(p.Key[docSize:])
		if e != api.OK || len(l) > api.MaxNodes { // no shelf wrote it
			return nil, api.ErrForm
		}
		l = append(l, row{numbers, p.Key, p.Value})
	}
	return l, api.OK
}

// pairs yields the pairs whose keys begin so, in order; beside an error, which is the last that it yields, there is no pair.
func (s *Shelf) pairs(begin []byte) iter.Seq2[hedge.Pair, api.Errno] {
	return func(yield func(hedge.Pair, api.Errno) bool) {
		for from := begin; ; {
			l, e := s.nodes.From(from, piece)
			if e != api.OK {
				yield(hedge.Pair{}, e)
				return
			}
			for _, p := range l {
				if !bytes.HasPrefix(p.Key, begin) || !yield(p, api.OK) {
					return
				}
			}
			if len(l) < piece {
				return
			}
			from = slices.Concat(l[piece-1].Key, []byte{0}) // the first key behind that one
		}
	}
}

// behind is the place behind the node at a place, and behind all that stands below it.
func (l rows) behind(at int) int {
	end := at + 1
	for end < len(l) && label.Above(l[at].label, l[end].label) {
		end++
	}
	return end
}

// kids yields the places of the kids of the node at a place, in order.
func (l rows) kids(at int) iter.Seq[int] {
	return func(yield func(int) bool) {
		end := l.behind(at)
		for kid := at + 1; kid < end; kid = l.behind(kid) {
			if !yield(kid) {
				return
			}
		}
	}
}

// kid is the place of a node's kid of that number, and whether there is one.
func (l rows) kid(at, number int) (int, bool) {
	for kid := range l.kids(at) {
		if number == 0 {
			return kid, true
		}
		number--
	}
	return 0, false
}

// place is that of the node at a path. There is one.
func (l rows) place(path []int) int {
	at := 0
	for _, number := range path {
		at, _ = l.kid(at, number)
	}
	return at
}
