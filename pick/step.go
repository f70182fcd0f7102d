package pick

import (
	"slices"

	"lectern/api"
	"lectern/trace"
)

// step is a step of a query.
type step struct {
	attr       bool // it means attributes
	deep       bool // it goes out from all nodes below, too
	test       test
	conditions []condition
}

// test is what a node is to be; of an attribute its name alone matters.
type test struct {
	kind  int // 0: any
	named bool
	name  api.Name
}

func (t test) names(n api.Name) bool { return !t.named || n == t.name }

func (t test) fits(n *api.Node) bool {
	return (t.kind == 0 || n.Kind == t.kind) && t.names(n.Name)
}

// condition is a number, or asks for an attribute.
type condition struct {
	number int // 0: none
	name   api.Name
	such   func(value string) bool // what its value is to be
}

// holds says whether a node has an attribute as it is asked for.
func (c condition) holds(n *api.Node) bool {
	return slices.ContainsFunc(n.Attrs, func(a api.Attr) bool { return a.Name == c.name && c.such(a.Value) })
}

func isAny(string) bool { return true }

// is asks for a value.
func is(value string) func(string) bool {
	return func(s string) bool { return s == value }
}

// goesRound asks for a figure that goes round a spot, or has it on it.
func goesRound(spot complex128) func(string) bool {
	return func(s string) bool {
		figure, _, e := trace.Read(s)
		if e != api.OK {
			return false
		}
		// Of what is no spot Around answers an error, and so neither.
		n, on, _ := trace.Around(figure, spot)
		return on || n != 0
	}
}
