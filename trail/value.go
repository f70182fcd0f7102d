package trail

import (
	"slices"
	"strings"

	"lectern/api"
	"lectern/tree"
)

// Value is the text of a node, or an attribute's value.
func Value(d api.Node, t Trail) (string, api.Errno) {
	n, e := tree.At(d, t.Steps)
	if e != api.OK {
		return "", e
	}
	if t.Attr {
		return attribute(n, t.Name)
	}
	switch n.Kind {
	case api.Text, api.Comment, api.Instr:
		return n.Text, api.OK
	}
	return textsBelow(&n), api.OK
}

// attribute is the value of the first attribute of that name.
func attribute(n api.Node, name api.Name) (string, api.Errno) {
	place := slices.IndexFunc(n.Attrs, func(a api.Attr) bool { return a.Name == name })
	if n.Kind != api.Element || place < 0 {
		return "", api.ErrNone
	}
	return n.Attrs[place].Value, api.OK
}

// textsBelow goes through a node's kids without calls within calls, as tree does: they may stand as deep as they like.
func textsBelow(n *api.Node) string {
	var w strings.Builder
	todo := []*api.Node{n}
	for len(todo) > 0 {
		next := todo[len(todo)-1]
		todo = todo[:len(todo)-1]
		if next.Kind == api.Text {
			w.WriteString(next.Text)
		}
		// The first kid is put on top: it comes next, with all that is below it.
		for i := range next.Kids {
			todo = append(todo, &next.Kids[len(next.Kids)-1-i])
		}
	}
	return w.String()
}
