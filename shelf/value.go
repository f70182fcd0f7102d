package shelf

import (
	"lectern/api"
	"lectern/gloss"
	"lectern/octet"
)

// A node's value is a byte that says its kind; its name; a byte that says how many attributes it has; of each its name, how many bytes its value has, and these; and the bytes of the node's text. A name is the gloss's number of its space, and that of its local name, 0 for an empty one.
const (
	kindSize   = 1
	countSize  = 1
	numberSize = 4
	lengthSize = 2
)

// value is what is laid of a node. Its names get numbers, where they have none.
func (s *Shelf) value(n api.Node) ([]byte, api.Errno) {
	w := writer{names: s.names}
	w.number(n.Kind, kindSize)
	w.name(n.Name)
	w.number(len(n.Attrs), countSize)
	for _, a := range n.Attrs {
		w.name(a.Name)
		w.number(len(a.Value), lengthSize)
		w.text(a.Value)
	}
	w.text(n.Text)
	return w.bytes, w.fault
}

// node is the node that a value says, without kids.
func (s *Shelf) node(value []byte) (api.Node, api.Errno) {
	r := reader{names: s.names, rest: value}
	n := api.Node{Kind: r.number(kindSize), Name: r.name()}
	for range r.number(countSize) {
		name := r.name()
		n.Attrs = append(n.Attrs, api.Attr{Name: name, Value: r.text(r.number(lengthSize))})
	}
	n.Text = r.text(len(r.rest))
	if r.fault != api.OK {
		return api.Node{}, r.fault
	}
	return n, api.OK
}

// document is the document whose nodes these are.
func (s *Shelf) document(l rows) (api.Node, api.Errno) {
	if len(l[0].label) > 0 { // no shelf wrote it
		return api.Node{}, api.ErrForm
	}
	return s.whole(l, 0)
}

// whole is the node at a place with its kids.
func (s *Shelf) whole(l rows, at int) (api.Node, api.Errno) {
	n, e := s.node(l[at].value)
	if e != api.OK {
		return api.Node{}, e
	}
	for place := range l.kids(at) {
		kid, e := s.whole(l, place)
		if e != api.OK {
			return api.Node{}, e
		}
		n.Kids = append(n.Kids, kid)
	}
	return n, api.OK
}

// writer writes a value, up to a fault of the gloss.
type writer struct {
	names *gloss.Gloss
	bytes []byte
	fault api.Errno
}

func (w *writer) number(v, size int) { w.bytes = append(w.bytes, octet.Bytes(uint64(v), size)...) }

func (w *writer) text(s string) { w.bytes = append(w.bytes, s...) }

func (w *writer) name(n api.Name) {
	w.gloss(n.URI)
	w.gloss(n.Local)
}

// gloss writes the number of a text.
func (w *writer) gloss(s string) {
	n := 0
	if s != "" && w.fault == api.OK {
		n, w.fault = w.names.Number(s)
	}
	w.number(n, numberSize)
}

// reader reads a value, up to a fault of it, or of the gloss.
type reader struct {
	names *gloss.Gloss
	rest  []byte
	fault api.Errno
}

// take is the next bytes; none, if there aren't so many.
func (r *reader) take(size int) []byte {
	if size > len(r.rest) { // no shelf wrote it
		r.fault = api.ErrForm
		return nil
	}
	b := r.rest[:size]
	r.rest = r.rest[size:]
	return b
}

func (r *reader) number(size int) int { return int(octet.Number(r.take(size))) }

func (r *reader) text(size int) string { return string(r.take(size)) }

func (r *reader) name() api.Name { return api.Name{URI: r.gloss(), Local: r.gloss()} }

// gloss reads the number of a text, and answers the text.
func (r *reader) gloss() string {
	n := r.number(numberSize)
	if n == 0 || r.fault != api.OK {
		return ""
	}
	s, e := r.names.Text(n)
	if e == api.ErrNone { // no shelf wrote that number
		e = api.ErrForm
	}
	r.fault = e
	return s
}
