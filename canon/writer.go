package canon

import (
	"slices"
	"strconv"
	"strings"

	"lectern/api"
	"lectern/refer"
)

// writer writes a right document.
type writer struct {
	strings.Builder
	// spaces is those that have prefixes. They rise.
	spaces []string
}

// put writes pieces one behind the other.
func (w *writer) put(pieces ...string) {
	for _, p := range pieces {
		w.WriteString(p)
	}
}

// isFull says whether more stands there than a document may have.
func (w *writer) isFull() bool { return w.Len() > api.MaxDoc }

// document writes the kids of a document.
func (w *writer) document(d api.Node) {
	for _, kid := range d.Kids {
		if kid.Kind == api.Element {
			w.element(kid, w.spaces)
		} else {
			w.node(kid)
		}
		w.put("\n")
	}
}

// node writes a node. A full writer goes on no more: all of it is thrown away, and the rest may be far more than what was handed in.
func (w *writer) node(n api.Node) {
	if w.isFull() {
		return
	}
	switch n.Kind {
	case api.Element:
		w.element(n, nil)
	case api.Text:
		w.put(refer.Text(n.Text))
	case api.Comment:
		w.put("<!--", n.Text, "-->")
	case api.Instr:
		w.instruction(n)
	}
}

// element writes an element that declares those spaces.
func (w *writer) element(n api.Node, spaces []string) {
	name := w.name(n.Name)
	w.put("<", name)
	for i, space := range spaces {
		w.attribute("xmlns:"+prefix(i), space)
	}
	for _, a := range n.Attrs {
		w.attribute(w.name(a.Name), a.Value)
	}
	w.put(">")
	for _, kid := range n.Kids {
		w.node(kid)
	}
	w.put("</", name, ">")
}

// attribute writes an attribute, or what declares a space.
func (w *writer) attribute(name, value string) {
	w.put(" ", name, `="`, refer.Quote(value), `"`)
}

// instruction writes an instruction.
func (w *writer) instruction(n api.Node) {
	w.put("<?", n.Name.Local)
	if n.Text != "" {
		w.put(" ", n.Text)
	}
	w.put("?>")
}

// name is the written name of an element or an attribute.
func (w *writer) name(n api.Name) string {
	switch n.URI {
	case "":
		return n.Local
	case api.SpaceXML:
		return "xml:" + n.Local
	}
	at, _ := slices.BinarySearch(w.spaces, n.URI)
	return prefix(at) + ":" + n.Local
}

// prefix is that of the space at a place of the list.
func prefix(at int) string { return "n" + strconv.Itoa(at+1) }
