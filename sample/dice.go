package sample

import (
	"cmp"
	"slices"
	"strings"

	"lectern/api"
)

// Dice is a row of numbers that seem to be drawn: the same ones behind the same begin.
type Dice uint64

// Under is a number from 0 to n less 1.
func (d *Dice) Under(n int) int {
	*d = *d*6364136223846793005 + 1442695040888963407
	return int(uint64(*d)>>33) % n
}

// OneIn is true once in n times.
func (d *Dice) OneIn(n int) bool { return d.Under(n) == 0 }

// Of is one of some texts.
func (d *Dice) Of(l ...string) string { return l[d.Under(len(l))] }

// Text is some pieces, one behind the other; any text may stand for a text or a value.
func (d *Dice) Text() string {
	var w strings.Builder
	for range d.Under(6) {
		w.WriteString(d.Of("x", "y", " ", "\t", "\n", "\r", "\r\n", "<", ">", "&", "'", `"`, "]]>", "]", "&lt;", "&#65;", "é", "\u4e00", "\U0001f600", "\u0085", "--", "?>", "<![CDATA[", "\ufeff"))
	}
	return w.String()
}

// Document is a right document.
func (d *Dice) Document() api.Node {
	kids := d.around()
	kids = append(kids, d.element(0))
	return Doc(append(kids, d.around()...)...)
}

// Node is a node of any kind, sometimes one that isn't right.
func (d *Dice) Node() api.Node {
	switch d.Under(8) {
	case 0:
		return Text(d.Of("", "x", "\xff", "y"))
	case 1:
		return Comment(d.Of("", "c", "--"))
	case 2:
		return Instr(d.Of("i", "xml", "j"), d.Of("", "w", " w"))
	case 3:
		return d.Document()
	case 4:
		return Chain(Elem("b"), 25+d.Under(10))
	case 5:
		return With(Elem("b", Text("x")), "u", "c", d.Text())
	}
	l := d.Document().Kids
	return l[d.Under(len(l))]
}

// around is what may stand beside an element of a document.
func (d *Dice) around() []api.Node {
	var l []api.Node
	for range d.Under(3) {
		l = append(l, d.note())
	}
	return l
}

// note is a comment or an instruction.
func (d *Dice) note() api.Node {
	if d.OneIn(2) {
		s := strings.ReplaceAll(d.Text(), "\r", "")
		return Comment(strings.TrimRight(strings.ReplaceAll(s, "--", "- "), "-"))
	}
	s := strings.ReplaceAll(strings.ReplaceAll(d.Text(), "\r", ""), "?>", "? >")
	return Instr(d.local(), strings.TrimLeft(s, " \t\n"))
}

func (d *Dice) local() string {
	return d.Of("a", "b", "c", "_", "a-1.x", "é", "\u4e00", "xmlns", "xml-x", "n1")
}

func (d *Dice) name() api.Name {
	space := d.Of("", "", "", "u", "u", "v", "urn:w", " <\"'&\t\n\r", "é", api.SpaceXML, api.SpaceXML+"/")
	return api.Name{URI: space, Local: d.local()}
}

func (d *Dice) attrs() []api.Attr {
	var l []api.Attr
	for range d.Under(5) {
		l = append(l, api.Attr{Name: d.name(), Value: d.Text()})
	}
	slices.SortStableFunc(l, func(a, b api.Attr) int {
		return cmp.Or(strings.Compare(a.Name.URI, b.Name.URI), strings.Compare(a.Name.Local, b.Name.Local))
	})
	l = slices.CompactFunc(l, func(a, b api.Attr) bool { return a.Name == b.Name })
	return slices.DeleteFunc(l, func(a api.Attr) bool { return a.Name == api.Name{Local: "xmlns"} })
}

// element is an element below some others.
func (d *Dice) element(above int) api.Node {
	n := api.Node{Kind: api.Element, Name: d.name(), Attrs: d.attrs()}
	for range d.Under(max(6-above, 1)) {
		last := 0
		if len(n.Kids) > 0 {
			last = n.Kids[len(n.Kids)-1].Kind
		}
		switch {
		case d.OneIn(3) && last != api.Text:
			n.Kids = append(n.Kids, Text(cmp.Or(d.Text(), "x")))
		case d.OneIn(4):
			n.Kids = append(n.Kids, d.note())
		default:
			n.Kids = append(n.Kids, d.element(above+1))
		}
	}
	return n
}
