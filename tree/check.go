package tree

import (
	"slices"
	"strings"

	"lectern/api"
	"lectern/char"
)

// Check is what is wrong with a document.
func Check(d api.Node) api.Errno {
	anywhere := func(wrong func(n *api.Node) bool) bool {
		for _, n := range nodes(&d) {
			if wrong(n) {
				return true
			}
		}
		return false
	}
	switch {
	case d.Kind != api.Document || anywhere(isMisfit):
		return api.ErrKind
	case isTooDeep(&d):
		return api.ErrDeep
	case Size(d)-1 > api.MaxNodes || anywhere(isTooLarge):
		return api.ErrLimit
	case anywhere(isMisnamed):
		return api.ErrName
	case anywhere(hasFault):
		return api.ErrChar
	case anywhere(isUnordered):
		return api.ErrOrder
	case anywhere(isUnwritable):
		return api.ErrText
	case roots(&d) != 1:
		return api.ErrRoot
	}
	return api.OK
}

// isMisfit says whether a node has what its kind hasn't, or a kid of a wrong kind.
func isMisfit(n *api.Node) bool {
	named, attributed := n.Name != api.Name{}, len(n.Attrs) > 0
	if slices.ContainsFunc(n.Kids, func(kid api.Node) bool { return !mayHave(n.Kind, kid.Kind) }) {
		return true
	}
	switch n.Kind {
	case api.Document:
		return named || attributed || n.Text != ""
	case api.Element:
		return n.Text != ""
	case api.Instr:
		return n.Name.URI != "" || attributed
	}
	return named || attributed
}

// mayHave says whether a node of a kind may have a kid of another one.
func mayHave(kind, kid int) bool {
	switch kid {
	case api.Element, api.Comment, api.Instr:
		return kind == api.Document || kind == api.Element
	case api.Text:
		return kind == api.Element
	}
	return false
}

// isTooDeep says whether an element stands below too many others. Above it there are none but these and the document: no other kind has kids.
func isTooDeep(d *api.Node) bool {
	for path, n := range nodes(d) {
		if n.Kind == api.Element && len(path)-1 > api.MaxDepth {
			return true
		}
	}
	return false
}

func isTooLarge(n *api.Node) bool {
	return len(n.Attrs) > api.MaxAttrs ||
		anyText(n, func(s string) bool { return len(s) > api.MaxValue })
}

func isMisnamed(n *api.Node) bool {
	switch n.Kind {
	case api.Element:
		return !isName(n.Name) || slices.ContainsFunc(n.Attrs, func(a api.Attr) bool {
			// Written without a prefix it would declare.
			return !isName(a.Name) || a.Name == api.Name{Local: "xmlns"}
		})
	case api.Instr:
		return !char.Name(n.Name.Local) || strings.EqualFold(n.Name.Local, "xml")
	}
	return false
}

// isName says whether an element, or an attribute, may have that name.
func isName(n api.Name) bool {
	return char.Name(n.Local) && len(n.URI) <= api.MaxName && !isFaulty(n.URI) && n.URI != api.SpaceXMLNS
}

func hasFault(n *api.Node) bool { return anyText(n, isFaulty) }

func isFaulty(s string) bool {
	_, e := char.Fault([]byte(s))
	return e != api.OK
}

// anyText says whether something holds of a node's text, or of a value of its attributes.
func anyText(n *api.Node, such func(s string) bool) bool {
	return such(n.Text) || slices.ContainsFunc(n.Attrs, func(a api.Attr) bool { return such(a.Value) })
}

func isUnordered(n *api.Node) bool {
	for i := 1; i < len(n.Attrs); i++ {
		if Order(n.Attrs[i-1].Name, n.Attrs[i].Name) >= 0 {
			return true
		}
	}
	return false
}

// isUnwritable says whether no bytes say the node, with the texts among its kids.
func isUnwritable(n *api.Node) bool {
	switch n.Kind {
	case api.Text:
		return n.Text == ""
	case api.Comment:
		return strings.Contains(n.Text, "--") || strings.HasSuffix(n.Text, "-") || strings.Contains(n.Text, "\r")
	case api.Instr:
		return strings.Contains(n.Text, "?>") || strings.Contains(n.Text, "\r") || strings.TrimLeft(n.Text, " \t\n\r") != n.Text
	}
	for i := 1; i < len(n.Kids); i++ {
		if n.Kids[i-1].Kind == api.Text && n.Kids[i].Kind == api.Text {
			return true
		}
	}
	return false
}

// roots is how many elements there are among the kids.
func roots(d *api.Node) int {
	n := 0
	for _, kid := range d.Kids {
		if kid.Kind == api.Element {
			n++
		}
	}
	return n
}
