package parse

import (
	"slices"
	"strconv"
	"strings"
	"testing"

	"lectern/api"
	"lectern/sample"
	"lectern/scan"
	"lectern/scope"
	"lectern/tree"
)

// speller spells documents in any of the ways in which bytes may say them.
type speller struct {
	sample.Dice
	strings.Builder
}

// spelt is the spelling of a document.
func (w *speller) spelt(d api.Node) string {
	w.WriteString(w.Of("", "", "\xef\xbb\xbf"))
	if w.OneIn(2) {
		w.WriteString("<?xml version='1.0'" + w.Of("", ` encoding="utf-8"`) + w.Of("", " standalone = 'yes'", " ") + "?>")
	}
	w.gap()
	for _, kid := range d.Kids {
		w.node(kid, map[string]string{"xml": api.SpaceXML})
		w.gap()
	}
	return w.String()
}

// gap writes white space that says nothing.
func (w *speller) gap() { w.WriteString(w.Of("", "", "\n", "\r\n", " \t\r")) }

// blanks writes white space.
func (w *speller) blanks() { w.WriteString(w.Of(" ", " ", "\n", "\t\r\n")) }

func (w *speller) node(n api.Node, bound map[string]string) {
	switch n.Kind {
	case api.Comment:
		w.WriteString("<!--" + w.lines(n.Text) + "-->")
	case api.Instr:
		w.WriteString("<?" + n.Name.Local)
		if n.Text != "" || w.OneIn(2) {
			w.blanks()
		}
		w.WriteString(w.lines(n.Text) + "?>")
	case api.Text:
		w.text(n.Text)
	case api.Element:
		w.element(n, bound)
	}
}

// lines is s with its ends of lines as they may be written.
func (w *speller) lines(s string) string {
	end := w.Of("\n", "\r\n", "\r")
	if end == "\r" && strings.Contains(s, "\r") {
		end = "\n"
	}
	return strings.ReplaceAll(s, "\n", end)
}

// ref writes a reference to a char.
func (w *speller) ref(r rune) {
	named := map[rune]string{'<': "&lt;", '>': "&gt;", '&': "&amp;", '\'': "&apos;", '"': "&quot;"}
	if s, ok := named[r]; ok && w.OneIn(2) {
		w.WriteString(s)
		return
	}
	noughts := w.Of("", "", "0", "000")
	w.WriteString(w.Of("&#"+noughts+strconv.Itoa(int(r))+";", "&#x"+noughts+strconv.FormatInt(int64(r), 16)+";", "&#x"+strings.ToUpper(strconv.FormatInt(int64(r), 16))+";"))
}

// text writes texts and data, one beside the other.
func (w *speller) text(s string) {
	for s != "" {
		at := w.Under(len(s) + 1)
		for at < len(s) && s[at]&0xc0 == 0x80 {
			at++
		}
		piece := s[:at]
		s = s[at:]
		if w.OneIn(3) && !strings.Contains(piece, "]]>") && !strings.Contains(piece, "\r") {
			w.WriteString("<![CDATA[" + strings.ReplaceAll(piece, "\n", w.Of("\n", "\r\n")) + "]]>")
			continue
		}
		for _, r := range piece {
			switch {
			case r == '<' || r == '&' || r == '\r' || r == '>' && strings.HasSuffix(w.String(), "]]") || w.OneIn(6):
				w.ref(r)
			case r == '\n':
				w.WriteString(w.Of("\n", "\r\n"))
			default:
				w.WriteRune(r)
			}
		}
	}
	w.WriteString(w.Of("", "", "", "<![CDATA[]]>"))
}

// quoted writes a value between quotes.
func (w *speller) quoted(s string) {
	quote := w.Of("'", `"`)
	w.WriteString(quote)
	for _, r := range s {
		switch {
		case strings.ContainsRune("<&\t\n\r"+quote, r) || w.OneIn(6):
			w.ref(r)
		case r == ' ':
			w.WriteString(w.Of(" ", "\t", "\n", "\r\n"))
		default:
			w.WriteRune(r)
		}
	}
	w.WriteString(quote)
}

// tag is a tag that is being spelt: what it declares, and which prefixes can't be declared any more.
type tag struct {
	bound    map[string]string
	used     map[string]bool
	declared []scan.Pair
}

// prefix is one that stands for a space, declared if need be; the empty one is for elements alone.
func (w *speller) prefix(g *tag, space string, l ...string) string {
	if space == api.SpaceXML {
		return "xml"
	}
	at := w.Under(len(l))
	for i := range l {
		p := l[(at+i)%len(l)]
		if g.bound[p] == space {
			g.used[p] = true
			return p
		}
		if !g.used[p] {
			g.declare(p, space)
			return p
		}
	}
	panic("there are too few prefixes")
}

func (g *tag) declare(prefix, space string) {
	name := "xmlns:" + prefix
	if prefix == "" {
		name = "xmlns"
	}
	g.bound[prefix], g.used[prefix] = space, true
	g.declared = append(g.declared, scan.Pair{Name: name, Value: space})
}

func written(prefix, local string) string {
	if prefix == "" {
		return local
	}
	return prefix + ":" + local
}

func (w *speller) element(n api.Node, outer map[string]string) {
	g := &tag{bound: map[string]string{}, used: map[string]bool{}}
	for p, space := range outer {
		g.bound[p] = space
	}
	prefix := ""
	if n.Name.URI != "" {
		prefix = w.prefix(g, n.Name.URI, "", "p", "q", "r", "s", "n1", "xmlnsx")
	} else if g.bound[""] != "" {
		g.declare("", "")
	}
	g.used[""] = true
	var pairs []scan.Pair
	for _, a := range n.Attrs {
		p := ""
		if a.Name.URI != "" {
			p = w.prefix(g, a.Name.URI, "p", "q", "r", "s", "n1", "n2", "n3", "XML")
		}
		pairs = append(pairs, scan.Pair{Name: written(p, a.Name.Local), Value: a.Value})
	}
	if w.OneIn(9) {
		pairs = append(pairs, scan.Pair{Name: "xmlns:xml", Value: api.SpaceXML})
	}
	w.tag(written(prefix, n.Name.Local), append(pairs, g.declared...), n.Kids, g.bound)
}

func (w *speller) tag(name string, pairs []scan.Pair, kids []api.Node, bound map[string]string) {
	w.WriteString("<" + name)
	for len(pairs) > 0 {
		at := w.Under(len(pairs))
		w.blanks()
		w.WriteString(pairs[at].Name)
		w.gap()
		w.WriteString("=")
		w.gap()
		w.quoted(pairs[at].Value)
		pairs = slices.Delete(pairs, at, at+1)
	}
	w.gap()
	if len(kids) == 0 && w.OneIn(2) {
		w.WriteString("/>")
		return
	}
	w.WriteString(">" + w.Of("", "", "", "<![CDATA[]]>"))
	for _, kid := range kids {
		w.node(kid, bound)
	}
	w.WriteString("</" + name)
	w.gap()
	w.WriteString(">")
}

// TestP2Spelt: in whatever way a document is spelt, it is read as itself.
func TestP2Spelt(t *testing.T) {
	d := sample.Dice(6)
	for range 4000 {
		want := d.Document()
		if e := tree.Check(want); e != api.OK {
			t.Fatalf("a drawn document isn't right: %d, %q", e, line(want))
		}
		w := speller{Dice: d}
		s := w.spelt(want)
		d = w.Dice
		got, at, e := Parse([]byte(s))
		if at != 0 || e != api.OK || !tree.Equal(got, want) {
			t.Fatalf("Parse(%q) = %q, %d, %d, not %q", s, line(got), at, e, line(want))
		}
	}
}

// model reads tokens by calls within calls.
type model struct {
	tokens []scan.Token
	nodes  int
	at     int
	e      api.Errno
}

// fail keeps the first fault.
func (m *model) fail(at int, e api.Errno) []api.Node {
	if m.e == api.OK {
		m.at, m.e = at, e
	}
	return nil
}

// count counts a node that a token has made.
func (m *model) count(t scan.Token) {
	m.nodes++
	if m.nodes > 2000 {
		m.fail(t.At, api.ErrLimit)
	}
}

// kids reads the kids of an element, or of the document, up to its closing.
func (m *model) kids(s scope.Scope, deep int, name string, end int) []api.Node {
	var l []api.Node
	for m.e == api.OK {
		if len(m.tokens) == 0 {
			if deep > 0 {
				return m.fail(end, api.ErrTag)
			}
			return l
		}
		t := m.tokens[0]
		switch t.Kind {
		case scan.Comment, scan.Instr:
			kind := map[int]int{scan.Comment: api.Comment, scan.Instr: api.Instr}[t.Kind]
			if len(t.Text) > 8192 {
				return m.fail(t.At, api.ErrLimit)
			}
			m.count(t)
			l = append(l, api.Node{Kind: kind, Name: api.Name{Local: t.Name}, Text: t.Text})
		case scan.Text, scan.Data:
			if text := m.run(deep); text != "" {
				l = append(l, sample.Text(text))
			}
			continue
		case scan.Close:
			if deep == 0 || t.Name != name {
				return m.fail(t.At, api.ErrTag)
			}
			m.tokens = m.tokens[1:]
			return l
		case scan.Open, scan.Lone:
			if deep == 0 && slices.ContainsFunc(l, func(n api.Node) bool { return n.Kind == api.Element }) {
				return m.fail(t.At, api.ErrRoot)
			}
			l = append(l, m.element(t, s, deep, end))
			continue
		}
		m.tokens = m.tokens[1:]
	}
	return nil
}

// run reads texts and data side by side.
func (m *model) run(deep int) string {
	text := ""
	for len(m.tokens) > 0 && m.e == api.OK && (m.tokens[0].Kind == scan.Text || m.tokens[0].Kind == scan.Data) {
		t := m.tokens[0]
		m.tokens = m.tokens[1:]
		if deep == 0 {
			if t.Kind == scan.Data || t.Refs > 0 || len(strings.Fields(t.Text)) > 0 {
				m.fail(t.At, api.ErrRoot)
			}
			continue
		}
		if text == "" && t.Text != "" {
			m.count(t)
		}
		if text += t.Text; len(text) > 8192 {
			m.fail(t.At, api.ErrLimit)
		}
	}
	return text
}

func (m *model) element(t scan.Token, s scope.Scope, deep, end int) api.Node {
	m.tokens = m.tokens[1:]
	if deep == 33 {
		m.fail(t.At, api.ErrDeep)
		return api.Node{}
	}
	in, e := s.Open(t.Pairs)
	m.check(t, e)
	name, e := in.Element(t.Name)
	m.check(t, e)
	attrs, e := in.Attrs(t.Pairs)
	m.check(t, e)
	for _, a := range attrs {
		if len(a.Value) > 8192 || len(attrs) > 64 {
			m.fail(t.At, api.ErrLimit)
		}
	}
	m.count(t)
	n := api.Node{Kind: api.Element, Name: name, Attrs: attrs}
	if t.Kind == scan.Open {
		n.Kids = m.kids(in, deep+1, t.Name, end)
	}
	return n
}

func (m *model) check(t scan.Token, e api.Errno) {
	if e != api.OK {
		m.fail(t.At, e)
	}
}

func modelOf(b []byte) (api.Node, int, api.Errno) {
	l, at, e := scan.All(b)
	if e != api.OK {
		return api.Node{}, at, e
	}
	m, end := model{tokens: l}, len(scan.Plain(b))
	d := sample.Doc(m.kids(scope.New(), 0, "", end)...)
	if !slices.ContainsFunc(d.Kids, func(n api.Node) bool { return n.Kind == api.Element }) {
		m.fail(end, api.ErrRoot)
	}
	if m.e != api.OK {
		return api.Node{}, m.at, m.e
	}
	return d, 0, api.OK
}

// drawn is a row of tokens of which many fit together.
func drawn(d *sample.Dice) string {
	s, open := "", []string{}
	for range d.Under(30) {
		name := d.Of("a", "a", "a", "b", "p:a", "xmlns:a")
		pairs := d.Of("", "", " xmlns:p='u'", " xmlns='v' p:b=''", " xmlns:q='u' xmlns:p='u' q:b='' b=''", " xmlns:p='u' xmlns:q='u' p:b='' q:b=''", " xmlns:p=''")
		switch d.Under(9) {
		case 0, 1, 2:
			s, open = s+"<"+name+pairs+">", append(open, name)
		case 3:
			s += "<" + name + pairs + "/>"
		case 4, 5:
			if len(open) > 0 {
				s, open = s+"</"+open[len(open)-1]+">", open[:len(open)-1]
			}
		case 6:
			s += d.Of("<!--c-->", "<?i x?>", "<![CDATA[]]>", "<![CDATA[z]]>", "<![CDATA[ ]]>")
		case 7:
			s += d.Of("x", " ", "\r\n", "&#32;", " y ")
		case 8:
			s += d.Of("</a>", "</b>", "<?xml version='1.0'?>", "", "", "")
		}
	}
	if d.OneIn(4) {
		return s
	}
	for _, name := range slices.Backward(open) {
		s += "</" + name + ">"
	}
	return s
}

func TestModel(t *testing.T) {
	d := sample.Dice(66)
	times := map[api.Errno]int{}
	for i := range 40000 {
		s := drawn(&d)
		switch i % 4 {
		case 1:
			s = "<p:r xmlns:p='w'>" + s + "</p:r>"
		case 2:
			s = "<?xml version='1.0'?><r xmlns:p='w'>" + s + drawn(&d) + "</r>\n"
		}
		n, at, e := Parse([]byte(s))
		if wn, wat, we := modelOf([]byte(s)); !tree.Equal(n, wn) || at != wat || e != we {
			t.Fatalf("Parse(%q) = %q, %d, %d, not %q, %d, %d", s, line(n), at, e, line(wn), wat, we)
		}
		if e == api.OK && tree.Check(n) != api.OK {
			t.Fatalf("Parse(%q) = %q isn't right", s, line(n))
		}
		times[e]++
	}
	for _, e := range []api.Errno{api.OK, api.ErrTag, api.ErrRoot, api.ErrPrefix, api.ErrTwice, api.ErrReserved} {
		if times[e] < 100 {
			t.Errorf("%d is told %d times alone", e, times[e])
		}
	}
}
