package audit

import (
	"lectern/api"
	"lectern/base"
	"lectern/label"
	"lectern/parse"
	"lectern/tree"
)

// paper is a document as a base tells it in all ways.
type paper struct {
	tree   api.Node
	export []byte
	labels [][]int
}

// read is a document of a base. One that isn't right has no Export, so that isn't asked then.
func read(b *base.Base, name string) (paper, api.Errno) {
	d, e := b.Tree(name)
	if e != api.OK {
		return paper{}, e
	}
	if tree.Check(d) != api.OK {
		return paper{tree: d}, api.OK
	}
	text, e := b.Export(name)
	if e != api.OK {
		return paper{}, e
	}
	doc, e := b.Number(name)
	if e != api.OK {
		return paper{}, e
	}
	_, s := b.Shelf()
	labels, e := s.Labels(doc)
	if e != api.OK {
		return paper{}, e
	}
	return paper{d, text, labels}, api.OK
}

// isRight says whether the document is one, and whether all that is told of it fits it.
func (p paper) isRight() bool {
	return tree.Check(p.tree) == api.OK && p.isSaid() && p.isLabelled()
}

// isSaid says whether the Export is parsed as just that document.
func (p paper) isSaid() bool {
	d, _, e := parse.Parse(p.export)
	return e == api.OK && tree.Equal(d, p.tree)
}

// isLabelled says whether the labels rise, and are as many as the nodes.
func (p paper) isLabelled() bool {
	for i := 1; i < len(p.labels); i++ {
		if label.Compare(p.labels[i-1], p.labels[i]) >= 0 {
			return false
		}
	}
	return len(p.labels) == tree.Size(p.tree)
}
