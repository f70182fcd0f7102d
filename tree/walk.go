package tree

import (
	"iter"

	"lectern/api"
)

// Trees are gone through without calls within calls: these would go as deep as the tree, and any tree may be handed in.

// nodes is the nodes of a tree with their paths, each ahead of its kids. A path is its reader's up to the next one alone.
func nodes(top *api.Node) iter.Seq2[[]int, *api.Node] {
	return func(yield func([]int, *api.Node) bool) {
		way, path := []*api.Node{top}, []int{}
		next := 0
		if !yield(path, top) {
			return
		}
		for {
			last := way[len(way)-1]
			switch {
			case next < len(last.Kids):
				kid := &last.Kids[next]
				way, path = append(way, kid), append(path, next)
				next = 0
				if !yield(path, kid) {
					return
				}
			case len(path) > 0:
				next = path[len(path)-1] + 1
				way, path = way[:len(way)-1], path[:len(path)-1]
			default:
				return
			}
		}
	}
}

// pair is a node of each of two trees, at the same path.
type pair struct {
	a, b *api.Node
}

// together goes through two trees at once as long as visit says true, and answers whether it always did. Where visit says true of two nodes they have as many kids.
func together(a, b *api.Node, visit func(a, b *api.Node) bool) bool {
	todo := []pair{{a, b}}
	for len(todo) > 0 {
		p := todo[len(todo)-1]
		todo = todo[:len(todo)-1]
		if !visit(p.a, p.b) {
			return false
		}
		for i := range p.a.Kids {
			todo = append(todo, pair{&p.a.Kids[i], &p.b.Kids[i]})
		}
	}
	return true
}
