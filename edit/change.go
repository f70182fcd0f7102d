package edit

import (
	"slices"
	"sort"
	"strings"

	"lectern/api"
	"lectern/tree"
)

// change changes a document, and answers what undoes that. Behind an error the document may be half changed.
func change(d *api.Node, e Edit) (Edit, api.Errno) {
	if err := tree.Check(*d); err != api.OK {
		return Edit{}, err
	}
	if e.Op < Insert || e.Op > Write {
		return Edit{}, api.ErrArg
	}
	s, ok := find(d, e)
	if !ok {
		return Edit{}, api.ErrPath
	}
	back, err := s.change(e)
	back.At = slices.Clone(e.At)
	return back, err
}

// spot is where a path ends: among the kids of a node.
type spot struct {
	in *api.Node
	at int
}

// find is the spot of an edit.
func find(d *api.Node, e Edit) (spot, bool) {
	if len(e.At) == 0 {
		return spot{}, false
	}
	in, last := d, len(e.At)-1
	for _, kid := range e.At[:last] {
		if kid < 0 || kid >= len(in.Kids) {
			return spot{}, false
		}
		in = &in.Kids[kid]
	}
	s, end := spot{in, e.At[last]}, len(in.Kids)
	if e.Op == Insert {
		end++ // there is room behind the last kid, too
	}
	return s, s.at >= 0 && s.at < end
}

// change changes what stands at a spot. What it answers has no path yet.
func (s spot) change(e Edit) (Edit, api.Errno) {
	switch e.Op {
	case Insert:
		s.in.Kids = slices.Insert(s.in.Kids, s.at, tree.Copy(e.Node))
		return Edit{Op: Delete}, api.OK
	case Delete:
		back := Edit{Op: Insert, Node: s.in.Kids[s.at]}
		s.in.Kids = slices.Delete(s.in.Kids, s.at, s.at+1)
		return back, api.OK
	}
	switch n := &s.in.Kids[s.at]; e.Op {
	case Replace:
		back := Edit{Op: Replace, Node: *n}
		*n = tree.Copy(e.Node)
		return back, api.OK
	case Write:
		return write(n, e.Text)
	default:
		return attribute(n, e)
	}
}

// write gives a node another text.
func write(n *api.Node, s string) (Edit, api.Errno) {
	switch n.Kind {
	case api.Text, api.Comment, api.Instr:
		back := Edit{Op: Write, Text: n.Text}
		n.Text = strings.Clone(s)
		return back, api.OK
	}
	return Edit{}, api.ErrKind
}

// attribute sets or drops an attribute of a node.
func attribute(n *api.Node, e Edit) (Edit, api.Errno) {
	if n.Kind != api.Element {
		return Edit{}, api.ErrKind
	}
	name := api.Name{URI: strings.Clone(e.Name.URI), Local: strings.Clone(e.Name.Local)}
	place, there := search(n.Attrs, name)
	back := Edit{Op: Drop, Name: name}
	if there {
		back.Op, back.Text = Set, n.Attrs[place].Value
	}
	switch {
	case e.Op == Set && there:
		n.Attrs[place].Value = strings.Clone(e.Text)
	case e.Op == Set:
		n.Attrs = slices.Insert(n.Attrs, place, api.Attr{Name: name, Value: strings.Clone(e.Text)})
	case there:
		n.Attrs = slices.Delete(n.Attrs, place, place+1)
	default:
		return Edit{}, api.ErrNone
	}
	return back, api.OK
}

// search is the place of an attribute, or the one that it would have, and whether it stands there.
func search(l []api.Attr, name api.Name) (int, bool) {
	place := sort.Search(len(l), func(i int) bool { return tree.Order(l[i].Name, name) >= 0 })
	return place, place < len(l) && l[place].Name == name
}
