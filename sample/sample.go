// Package sample makes nodes and documents for the tests of other packages.
package sample

import (
	"lectern/api"
)

// Doc is a document.
func Doc(kids ...api.Node) api.Node { return api.Node{Kind: api.Document, Kids: kids} }

// Elem is an element in no space.
func Elem(local string, kids ...api.Node) api.Node {
	return api.Node{Kind: api.Element, Name: api.Name{Local: local}, Kids: kids}
}

// Text is a text.
func Text(s string) api.Node { return api.Node{Kind: api.Text, Text: s} }

// Comment is a comment.
func Comment(s string) api.Node { return api.Node{Kind: api.Comment, Text: s} }

// Instr is an instruction.
func Instr(name, s string) api.Node {
	return api.Node{Kind: api.Instr, Name: api.Name{Local: name}, Text: s}
}

// In is n with its name in a space.
func In(space string, n api.Node) api.Node {
	n.Name.URI = space
	return n
}

// With is n with attributes of spaces, local names and values by turns.
func With(n api.Node, words ...string) api.Node {
	n.Attrs = nil
	for i := 0; i+2 < len(words); i += 3 {
		n.Attrs = append(n.Attrs, api.Attr{Name: api.Name{URI: words[i], Local: words[i+1]}, Value: words[i+2]})
	}
	return n
}

// Chain is n within that many elements called a.
func Chain(n api.Node, elements int) api.Node {
	for range elements {
		n = Elem("a", n)
	}
	return n
}

// Spoil writes into all lists of a tree, spare room too: what shares memory with it is spoilt then.
func Spoil(n api.Node) {
	attrs := n.Attrs[:cap(n.Attrs)]
	for i := range attrs {
		attrs[i] = api.Attr{Name: api.Name{URI: "spoilt", Local: "spoilt"}, Value: "spoilt"}
	}
	kids := n.Kids[:cap(n.Kids)]
	for i := range kids {
		Spoil(kids[i])
		kids[i] = Text("spoilt")
	}
}
