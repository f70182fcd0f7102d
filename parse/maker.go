package parse

import (
	"slices"
	"strings"

	"lectern/api"
	"lectern/scan"
	"lectern/scope"
)

// opened is an element that is open, with the kids that it has so far: it becomes its parent's kid when it is closed. The document is held for one, too.
type opened struct {
	node    api.Node
	written string
	scope   scope.Scope
}

// maker makes a document, token by token.
type maker struct {
	// open is the document, and behind it the elements from the outer ones to the inner ones.
	open  []opened
	nodes int
}

func newMaker() *maker {
	return &maker{open: []opened{{node: api.Node{Kind: api.Document}, scope: scope.New()}}}
}

// innermost is what the next kid belongs to.
func (m *maker) innermost() *opened { return &m.open[len(m.open)-1] }

// elements is how many elements are open.
func (m *maker) elements() int { return len(m.open) - 1 }

// hasRoot says whether an element of the document has ended.
func (m *maker) hasRoot() bool {
	return slices.ContainsFunc(m.open[0].node.Kids, func(kid api.Node) bool { return kid.Kind == api.Element })
}

// take makes of a token what it says.
func (m *maker) take(t scan.Token) api.Errno {
	if e := m.token(t); e != api.OK {
		return e
	}
	if m.nodes > api.MaxNodes {
		return api.ErrLimit
	}
	return api.OK
}

// token is take without a look at how many nodes there are.
func (m *maker) token(t scan.Token) api.Errno {
	switch t.Kind {
	case scan.Comment:
		return m.leaf(api.Node{Kind: api.Comment, Text: t.Text})
	case scan.Instr:
		return m.leaf(api.Node{Kind: api.Instr, Name: api.Name{Local: t.Name}, Text: t.Text})
	case scan.Text, scan.Data:
		return m.chars(t)
	case scan.Open:
		return m.opening(t)
	case scan.Lone:
		e := m.opening(t)
		if e == api.OK {
			m.closeInnermost()
		}
		return e
	case scan.Close:
		return m.closing(t)
	}
	return api.OK // a declaration says nothing
}

// leaf adds a node that has no kids.
func (m *maker) leaf(n api.Node) api.Errno {
	if len(n.Text) > api.MaxValue {
		return api.ErrLimit
	}
	to := &m.innermost().node
	to.Kids = append(to.Kids, n)
	m.nodes++
	return api.OK
}

// chars adds a text, or data.
func (m *maker) chars(t scan.Token) api.Errno {
	switch {
	case m.elements() == 0:
		if !isGap(t) {
			return api.ErrRoot
		}
		return api.OK
	case t.Text == "":
		return api.OK
	}
	// Whatever isn't text or data leaves a node of another kind behind the last text, or goes on in another element.
	if kids := m.innermost().node.Kids; len(kids) > 0 && kids[len(kids)-1].Kind == api.Text {
		return lengthen(&kids[len(kids)-1], t.Text)
	}
	return m.leaf(api.Node{Kind: api.Text, Text: t.Text})
}

// isGap says whether a text may stand outside of all elements.
func isGap(t scan.Token) bool {
	return t.Kind == scan.Text && t.Refs == 0 && strings.Trim(t.Text, " \t\n\r") == ""
}

// lengthen adds to a text what stands beside it.
func lengthen(n *api.Node, more string) api.Errno {
	if len(n.Text)+len(more) > api.MaxValue {
		return api.ErrLimit
	}
	n.Text += more
	return api.OK
}

// opening opens an element.
func (m *maker) opening(t scan.Token) api.Errno {
	switch {
	case m.hasRoot():
		return api.ErrRoot
	case m.elements() > api.MaxDepth:
		return api.ErrDeep
	}
	within, e := m.innermost().scope.Open(t.Pairs)
	if e != api.OK {
		return e
	}
	n, e := element(within, t)
	if e != api.OK {
		return e
	}
	m.open = append(m.open, opened{n, t.Name, within})
	m.nodes++
	return api.OK
}

// element is the element that an opening says in a scope, which is its own.
func element(within scope.Scope, t scan.Token) (api.Node, api.Errno) {
	name, e := within.Element(t.Name)
	if e != api.OK {
		return api.Node{}, e
	}
	attrs, e := within.Attrs(t.Pairs)
	if e != api.OK {
		return api.Node{}, e
	}
	isLong := func(a api.Attr) bool { return len(a.Value) > api.MaxValue }
	if len(attrs) > api.MaxAttrs || slices.ContainsFunc(attrs, isLong) {
		return api.Node{}, api.ErrLimit
	}
	return api.Node{Kind: api.Element, Name: name, Attrs: attrs}, api.OK
}

// closing closes the innermost element, if it is that one.
func (m *maker) closing(t scan.Token) api.Errno {
	if m.elements() == 0 || m.innermost().written != t.Name {
		return api.ErrTag
	}
	m.closeInnermost()
	return api.OK
}

// closeInnermost makes the innermost element a kid of the one about it.
func (m *maker) closeInnermost() {
	n := m.innermost().node
	m.open = m.open[:len(m.open)-1]
	to := &m.innermost().node
	to.Kids = append(to.Kids, n)
}

// end is the document, when all tokens are taken.
func (m *maker) end() (api.Node, api.Errno) {
	switch {
	case m.elements() > 0:
		return api.Node{}, api.ErrTag
	case !m.hasRoot():
		return api.Node{}, api.ErrRoot
	}
	return m.open[0].node, api.OK
}
