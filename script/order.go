package script

import (
	"strconv"
	"strings"

	"lectern/api"
	"lectern/parse"
	"lectern/trail"
)

// kind is what a word behind the first one says.
type kind int

const (
	aNumber kind = iota + 1
	aName
	aTrail
	anAttr
	someBits
	aText
	aNode
)

const maxDigits = 9

// order is what the words behind a line's first one say.
type order struct {
	numbers []int
	name    string
	trail   trail.Trail
	bits    []bool
	text    string
	node    api.Node
}

// goesOn says whether a word is all the rest of its line, blanks and all, and may be left out.
func (k kind) goesOn() bool { return k == aText || k == aNode }

// read is what stands behind the first word, if more does than that; false, if it isn't of that form.
func read(form []kind, behind string, more bool) (order, bool) {
	var o order
	for _, k := range form {
		word := behind
		switch {
		case k.goesOn():
			more = false
		case !more:
			return order{}, false
		default:
			word, behind, more = strings.Cut(behind, " ")
		}
		if !o.take(k, word) {
			return order{}, false
		}
	}
	return o, !more
}

// take takes a word in; false, if it isn't of that kind.
func (o *order) take(k kind, word string) bool {
	word, ok := unspell(word)
	if !ok {
		return false
	}
	switch k {
	case aNumber:
		var n int
		n, ok = number(word)
		o.numbers = append(o.numbers, n)
	case aName:
		o.name = word
	case aTrail, anAttr:
		t, e := trail.Read(word)
		o.trail, ok = t, e == api.OK && t.Attr == (k == anAttr)
	case someBits:
		o.bits, ok = bits(word)
	case aText:
		o.text = word
	case aNode:
		o.node, ok = node(word)
	}
	return ok
}

// number is the number that a word says.
func number(word string) (int, bool) {
	n, e := strconv.Atoi(word)
	return n, e == nil && n >= 0 && len(word) <= maxDigits && strconv.Itoa(n) == word
}

// bits is the bits that a word says, each whether it is 1.
func bits(word string) ([]bool, bool) {
	if word == "-" {
		return nil, true
	}
	var l []bool
	for _, b := range []byte(word) {
		if b != '0' && b != '1' {
			return nil, false
		}
		l = append(l, b == '1')
	}
	return l, len(l) > 0
}

// node is the node that a text says.
func node(text string) (api.Node, bool) {
	d, _, e := parse.Parse([]byte("<r>" + text + "</r>"))
	if e != api.OK {
		return api.Node{}, false
	}
	kids := d.Kids[0].Kids // no text ends r and goes on behind it: the document has no other kid
	if len(kids) != 1 {
		return api.Node{}, false
	}
	return kids[0], true
}
