package canon

import (
	"encoding/xml"
	"io"
	"strconv"
	"strings"
	"testing"

	"lectern/api"
	"lectern/sample"
	"lectern/tree"
)

// model is a right document's bytes, put together from the inner ones to the outer ones.
func model(d api.Node) string {
	spaces, prefixes := "", map[string]string{"": "", api.SpaceXML: "xml:"}
	for _, space := range tree.Spaces(d) {
		if space != api.SpaceXML {
			k := strconv.Itoa(len(prefixes) - 1)
			prefixes[space] = "n" + k + ":"
			spaces += " xmlns:n" + k + "=" + quoted(space)
		}
	}
	s := ""
	for _, kid := range d.Kids {
		s += modelOf(kid, prefixes, spaces) + "\n"
	}
	return s
}

func quoted(s string) string {
	return `"` + strings.NewReplacer("&", "&amp;", "<", "&lt;", `"`, "&quot;", "\t", "&#9;", "\n", "&#10;", "\r", "&#13;").Replace(s) + `"`
}

func modelOf(n api.Node, prefixes map[string]string, spaces string) string {
	switch n.Kind {
	case api.Text:
		return strings.NewReplacer("&", "&amp;", "<", "&lt;", ">", "&gt;", "\r", "&#13;").Replace(n.Text)
	case api.Comment:
		return "<!--" + n.Text + "-->"
	case api.Instr:
		if n.Text == "" {
			return "<?" + n.Name.Local + "?>"
		}
		return "<?" + n.Name.Local + " " + n.Text + "?>"
	}
	name, attrs, kids := prefixes[n.Name.URI]+n.Name.Local, "", ""
	for _, a := range n.Attrs {
		attrs += " " + prefixes[a.Name.URI] + a.Name.Local + "=" + quoted(a.Value)
	}
	for _, kid := range n.Kids {
		kids += modelOf(kid, prefixes, "")
	}
	return "<" + name + spaces + attrs + ">" + kids + "</" + name + ">"
}

// TestP7_2Reader: a reader of XML that isn't of this program reads what is written as the document, too.
func TestP7_2Reader(t *testing.T) {
	d := sample.Dice(77)
	for range 2000 {
		n := d.Document()
		b, e := Write(n)
		if e != api.OK {
			t.Fatalf("Write: %d", e)
		}
		if got, err := read(string(b)); err != nil || !tree.Equal(got, n) {
			t.Fatalf("%q is read as %q, %v", b, model(got), err)
		}
	}
}

func read(s string) (api.Node, error) {
	open := []api.Node{{Kind: api.Document}}
	add := func(n api.Node) {
		open[len(open)-1].Kids = append(open[len(open)-1].Kids, n)
	}
	for r := xml.NewDecoder(strings.NewReader(s)); ; {
		token, err := r.Token()
		if err == io.EOF {
			return open[0], nil
		}
		if err != nil {
			return api.Node{}, err
		}
		switch x := token.(type) {
		case xml.StartElement:
			open = append(open, started(x))
		case xml.EndElement:
			n := open[len(open)-1]
			open = open[:len(open)-1]
			add(n)
		case xml.CharData:
			if len(open) > 1 {
				add(sample.Text(string(x)))
			}
		case xml.Comment:
			add(sample.Comment(string(x)))
		case xml.ProcInst:
			add(sample.Instr(x.Target, string(x.Inst)))
		}
	}
}

func started(x xml.StartElement) api.Node {
	n := api.Node{Kind: api.Element, Name: api.Name{URI: x.Name.Space, Local: x.Name.Local}}
	for _, a := range x.Attr {
		if a.Name.Space != "xmlns" {
			n.Attrs = append(n.Attrs, api.Attr{Name: api.Name{URI: a.Name.Space, Local: a.Name.Local}, Value: a.Value})
		}
	}
	return n
}
