package shelf

import (
	"slices"

	"lectern/api"
	"lectern/edit"
	"lectern/label"
	"lectern/tree"
)

// placed is a node that is to stand under the label of these bytes; its kids are others that are placed.
type placed struct {
	label []byte
	node  api.Node
}

// spread is a node that is to stand under a label, and all below it: the k-th kid of a node has 2 k + 1 behind that one's label.
func spread(top []int, n api.Node) ([]placed, api.Errno) {
	var l []placed
	for path, node := range tree.All(n) {
		numbers := slices.Clone(top)
		for _, k := range path {
			numbers = append(numbers, 2*k+1)
		}
		b, e := label.Bytes(numbers)
		if e != api.OK {
			return nil, e
		}
		l = append(l, placed{b, node})
	}
	return l, api.OK
}

// edited is which nodes go and which come by an edit that made d of the document: so it is one that fits.
func (l rows) edited(e edit.Edit, d api.Node) (gone rows, come []placed, f api.Errno) {
	n, _ := tree.At(d, e.At) // there may be none behind a Delete alone
	switch e.Op {
	case edit.Insert:
		var top []int
		if top, f = l.room(e.At); f == api.OK {
			come, f = spread(top, n)
		}
	case edit.Delete:
		gone = l.below(e.At)
	case edit.Replace:
		gone = l.below(e.At)
		come, f = spread(gone[0].label, n)
	default:
		n.Kids = nil // they stay
		come, f = spread(l.below(e.At)[0].label, n)
	}
	return gone, come, f
}

// below is the node at a path, and all that stands below it.
func (l rows) below(path []int) rows {
	at := l.place(path)
	return l[at:l.behind(at)]
}

// room is the label of a new node at a path.
func (l rows) room(path []int) ([]int, api.Errno) {
	last := len(path) - 1
	up := l.place(path[:last])
	return label.Between(l[up].label, l.labelOf(up, path[last]-1), l.labelOf(up, path[last]))
}

// labelOf is the label of a node's kid of that number; an empty one, if there is none.
func (l rows) labelOf(up, number int) []int {
	kid, ok := l.kid(up, number)
	if !ok {
		return nil
	}
	return l[kid].label
}

// change takes nodes out of a document, and lays others in their place, or beside them.
func (s *Shelf) change(doc int, gone rows, come []placed) api.Errno {
	// The vault has just been read, so it isn't down and says what is so. Whether the same stands there already isn't asked: a change needs a transaction.
	if !s.vault.Busy() {
		return api.ErrState
	}
	stays := map[string]struct{}{}
	for _, p := range come {
		stays[string(keyOf(doc, p.label))] = struct{}{}
	}
	for _, r := range gone {
		if _, ok := stays[string(r.key)]; ok {
			continue
		}
		if _, e := s.nodes.Delete(r.key); e != api.OK {
			return e
		}
	}
	return s.lay(doc, come)
}

// lay lays nodes into the hedge.
func (s *Shelf) lay(doc int, come []placed) api.Errno {
	for _, p := range come {
		value, e := s.value(p.node)
		if e != api.OK {
			return e
		}
		if e := s.nodes.Put(keyOf(doc, p.label), value); e != api.OK {
			return e
		}
	}
	return api.OK
}
