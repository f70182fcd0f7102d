package parse

import (
	"bytes"
	"reflect"
	"strconv"
	"strings"
	"testing"

	"lectern/api"
	"lectern/sample"
	"lectern/scan"
	"lectern/tree"
)

func lookRight(t *testing.T, s string, want api.Node) {
	t.Helper()
	d, at, e := Parse([]byte(s))
	if at != 0 || e != api.OK || !tree.Equal(d, want) {
		t.Errorf("Parse(%.200q) = %.300q, %d, %d, not %.300q", s, line(d), at, e, line(want))
	}
	if e == api.OK && tree.Check(d) != api.OK {
		t.Errorf("Parse(%.200q) isn't right: %d", s, tree.Check(d))
	}
}

func lookWrong(t *testing.T, s string, wantAt int, want api.Errno) {
	t.Helper()
	d, at, e := Parse([]byte(s))
	if at != wantAt || e != want || !reflect.DeepEqual(d, api.Node{}) {
		t.Errorf("Parse(%.200q) = %.200q, %d, %d, not %d, %d", s, line(d), at, e, wantAt, want)
	}
}

// line tells a tree in a line.
func line(n api.Node) string {
	s := strconv.Itoa(n.Kind) + "{" + n.Name.URI + "}" + n.Name.Local
	for _, a := range n.Attrs {
		s += " {" + a.Name.URI + "}" + a.Name.Local + "=" + a.Value
	}
	for _, kid := range n.Kids {
		s += " (" + line(kid) + ")"
	}
	return s + n.Text
}

// root is a document of one element called a.
func root(kids ...api.Node) api.Node { return sample.Doc(sample.Elem("a", kids...)) }

func TestExamples(t *testing.T) {
	a := sample.In("u", sample.With(sample.Elem("a",
		sample.Text("x<&"), sample.Comment("c"), sample.In("u", sample.Elem("b")),
	), "", "b", "1"))
	lookRight(t, "<?xml version='1.0'?> <a xmlns='u' b='1'>x<![CDATA[<]]>&amp;<!--c--><b/></a>", sample.Doc(a))

	lookWrong(t, "<a></b>", 3, api.ErrTag)
	lookWrong(t, "</a>", 0, api.ErrTag)
	lookWrong(t, "<a>", 3, api.ErrTag)
	lookWrong(t, "<a/><b/>", 4, api.ErrRoot)
	lookWrong(t, "<a/>x", 4, api.ErrRoot)
	lookWrong(t, "<a/>&#32;", 4, api.ErrRoot)
	lookWrong(t, "", 0, api.ErrRoot)
	lookWrong(t, "<p:a/>", 0, api.ErrPrefix)
}

func TestP6_1OfTheWhole(t *testing.T) {
	lookRight(t, "<x b='1'/>", sample.Doc(sample.With(sample.Elem("x"), "", "b", "1")))
	lookRight(t, `<x b="1"></x>`+"\n", sample.Doc(sample.With(sample.Elem("x"), "", "b", "1")))
	lookRight(t, "<p:x xmlns:p='u'/>", sample.Doc(sample.In("u", sample.Elem("x"))))
	lookRight(t, `<n1:x xmlns:n1="u"></n1:x>`, sample.Doc(sample.In("u", sample.Elem("x"))))
	lookWrong(t, "<!DOCTYPE x><x/>", 0, api.ErrUnsupported)
	lookWrong(t, "<x>", 3, api.ErrTag)
}

// TestP6_1Scan: what isn't made of tokens is told as scan.All tells it, whatever the tokens ahead say.
func TestP6_1Scan(t *testing.T) {
	for _, s := range []string{
		strings.Repeat(" ", 65537), "<a>" + strings.Repeat("x", 65536) + "</a>",
		"<a>\x00</a>", "<a/>\xff", "\xef\xbb\xbf<a>\r\n\r\n\x01</a>", "<a>&nbsp;</a>", "<a>]]></a>", "<a b='1' b='1'/>", "<a:/>", "<a", "<", "<a/><!DOCTYPE a>", "<?xml?>", "<?xml version='2'?><a/>", "<a/><?xml version='1.0'?>", "<!-- -- --><a/>", "<a><![CDATA[</a>",
		"</a><a b=''b=''>", "<a/><a/><", "x<1>", "<p:a/></", "<a></b>&", "<a xmlns:p=''/>\x00", "<a/>x<!DOCTYPE a>",
	} {
		_, at, e := scan.All([]byte(s))
		if e == api.OK {
			t.Fatalf("%.80q is made of tokens", s)
		}
		lookWrong(t, s, at, e)
	}
	// As long as may be.
	lookWrong(t, strings.Repeat(" ", 65536), 65536, api.ErrRoot)
	lookRight(t, strings.Repeat(" ", 65532)+"<a/>", root())
}

func TestP6_1Declaration(t *testing.T) {
	for _, s := range []string{
		"<?xml version='1.0'?><a/>", "<?xml version=\"1.1\" encoding='Utf-8' standalone='no' ?>\n<a/>\n", "\xef\xbb\xbf<?xml version='1.0'?><a/>", "\xef\xbb\xbf<a/>", "<a/>", " \t\r\n<a/>\r\n\t ",
	} {
		lookRight(t, s, root())
	}
	lookWrong(t, "<?xml version='1.0'?>", 21, api.ErrRoot)
	lookWrong(t, "\xef\xbb\xbf<?xml version='1.0'?>\r\n", 22, api.ErrRoot)
}

func TestP6_1Notes(t *testing.T) {
	want := sample.Doc(
		sample.Comment(""), sample.Instr("i", ""), sample.Comment(" c\nd "),
		sample.Elem("a", sample.Comment("<&amp;]]>"), sample.Text("x"), sample.Instr("i", "x  y?\n"), sample.Comment("-x"), sample.Comment("x")),
		sample.Instr("j-1", "<!--"), sample.Comment("e"), sample.Instr("xmlns", "b='1'"),
	)
	lookRight(t, "<!----> <?i?>\n<!-- c\r\nd --><a><!--<&amp;]]>-->x<?i \t x  y?\r?><!---x--><!--x--></a><?j-1 <!--?><!--e--><?xmlns b='1'?>", want)

	lookLongNote(t, "<!--", "-->", sample.Comment)
	lookLongNote(t, "<?i ", "?>", func(s string) api.Node { return sample.Instr("i", s) })
}

// lookLongNote looks at comments, or instructions, that are written between those marks.
func lookLongNote(t *testing.T, begin, end string, node func(s string) api.Node) {
	t.Helper()
	for _, s := range []string{strings.Repeat("x", 8192), strings.Repeat("é", 4096), "x" + strings.Repeat("\n", 8191)} {
		written := begin + strings.ReplaceAll(s, "\n", "\r\n")
		lookRight(t, "<a>"+written+end+"</a>", root(node(s)))
		lookRight(t, written+end+"<a/>"+written+end, sample.Doc(node(s), sample.Elem("a"), node(s)))
		lookWrong(t, "<a>x"+written+"y"+end+"</b>", 4, api.ErrLimit)
		lookWrong(t, written+"y"+end+"<a>", 0, api.ErrLimit)
		lookWrong(t, "<a/> "+written+"y"+end+"<a/>", 5, api.ErrLimit)
	}
}

func TestP6_1TextOutside(t *testing.T) {
	for _, s := range []string{"x", "\u00a0", "\u0085", " x ", "\n.", "&#32;", " &#x20;", "&#10;\n", "&lt;", "<![CDATA[]]>", "<![CDATA[ ]]>", "<![CDATA[x]]>"} {
		lookWrong(t, s, 0, api.ErrRoot)
		lookWrong(t, s+"<a/>", 0, api.ErrRoot)
		lookWrong(t, "<!--c-->"+s+"<a/>", 8, api.ErrRoot)
		lookWrong(t, "<a>y</a>"+s, 8, api.ErrRoot)
		lookWrong(t, "<a>y</a><?i?>"+s+"</b>", 13, api.ErrRoot)
	}
	gap := strings.Repeat(" \t\r\n", 4000)
	lookRight(t, gap+"<!---->"+gap+"<a>y</a>"+gap, sample.Doc(sample.Comment(""), sample.Elem("a", sample.Text("y"))))
	lookWrong(t, gap+strings.Repeat("x", 9000), 0, api.ErrRoot)
	lookWrong(t, " <![CDATA[ ]]><a/>", 1, api.ErrRoot)
}

func TestP6_1TextWithin(t *testing.T) {
	for s, want := range map[string]string{
		"x": "x", " ": " ", "\r\n\r": "\n\n", "&#13;\n": "\r\n", "&#32;": " ", "&lt;&gt;&amp;&apos;&quot;": "<>&'\"", "<![CDATA[x]]>": "x", "<![CDATA[&lt;]]&gt;]]>": "&lt;]]&gt;", "<![CDATA[]]]]><![CDATA[>]]>": "]]>",
		"x<![CDATA[y]]>": "xy", "<![CDATA[x]]>y": "xy", "x<![CDATA[]]>y": "xy", "<![CDATA[]]>x<![CDATA[]]>": "x", "<![CDATA[\r\n]]>\r\n": "\n\n", "]]<![CDATA[>]]>": "]]>", "&#x1F600;é": "\U0001f600é",
		"a<![CDATA[b]]><![CDATA[c]]>d&#101;<![CDATA[f]]>": "abcdef",
	} {
		lookRight(t, "<a>"+s+"</a>", root(sample.Text(want)))
		lookRight(t, "<a><b/>"+s+"<b>"+s+"</b>"+s+"<!---->"+s+"<?i?>"+s+"</a>", root(
			sample.Elem("b"), sample.Text(want), sample.Elem("b", sample.Text(want)), sample.Text(want), sample.Comment(""), sample.Text(want), sample.Instr("i", ""), sample.Text(want),
		))
	}
	for _, s := range []string{"", "<![CDATA[]]>", "<![CDATA[]]><![CDATA[]]>"} {
		lookRight(t, "<a>"+s+"</a>", root())
		lookRight(t, "<a>"+s+"<!---->"+s+"<b>"+s+"</b>"+s+"</a>", root(sample.Comment(""), sample.Elem("b")))
	}
}

func data(s string) string { return "<![CDATA[" + s + "]]>" }

func TestP6_1TextLimit(t *testing.T) {
	full := strings.Repeat("x", 8192)
	for _, s := range []string{full, data(full), full[:8000] + data(full[8000:]), data(full[:1]) + full[1:], full + data(""), full[:2192] + strings.Repeat("x"+data("xx"), 2000)} {
		lookRight(t, "<a>"+s+"</a>", root(sample.Text(full)))
		lookRight(t, "<a>"+s+"<b/>x</a>", root(sample.Text(full), sample.Elem("b"), sample.Text("x")))
	}
	lookRight(t, "<a>"+strings.Repeat("&amp;", 8192)+"</a>", root(sample.Text(strings.Repeat("&", 8192))))
	lookRight(t, "<a>"+strings.Repeat("\r\n", 8192)+"</a>", root(sample.Text(strings.Repeat("\n", 8192))))
	lookWrong(t, "<a>"+full+"x</b>", 3, api.ErrLimit)
	lookWrong(t, "<a>"+data(full+"x")+"</a>", 3, api.ErrLimit)
	lookWrong(t, "<a>"+full+data("x")+"</a>", 8195, api.ErrLimit)
	lookWrong(t, "<a>"+full+data("")+"x</a>", 8207, api.ErrLimit)
	lookWrong(t, "<a>"+data("xy")+full[1:]+"</a>", 17, api.ErrLimit)
	lookWrong(t, "<a>"+strings.Repeat("é", 4096)+data("x")+"</a>", 8195, api.ErrLimit)
	lookWrong(t, "<a>\r\n<b>"+strings.Repeat("é", 4097)+"</b></a>", 7, api.ErrLimit)
}

func TestP6_1Tags(t *testing.T) {
	lookRight(t, "<a><b><c/></b><b></b></a>", root(sample.Elem("b", sample.Elem("c")), sample.Elem("b")))
	lookRight(t, "<a  ><a\n/><a></a\t></a >", root(sample.Elem("a"), sample.Elem("a")))
	for s, at := range map[string]int{
		"<a><b></a></b>": 6, "<a></a></a>": 7, "<a/></a>": 4, "<a></A>": 3, "<a><a></a>": 10, "<a>x": 4, "<a>\r\n": 4, "\xef\xbb\xbf<a>": 3, "<!--c--></a>": 8, "<a><b/></b></a>": 7, "<a></a ></b>": 8,
		"<p:a xmlns:p='u' xmlns:q='u'></q:a>": 29, "<p:a xmlns:p='u' xmlns='u'></a>": 27, "<a xmlns:p='u'></p:a>": 15, "<a></xmlns:a>": 3, "<a></q:a>": 3,
	} {
		lookWrong(t, s, at, api.ErrTag)
	}
	for s, at := range map[string]int{
		"<a/><a/>": 4, "<a></a>\n<b>": 8, "<a><b/></a><!--c--><p:b/>": 19, "<!---->": 7, "<?i?>\r\n": 6, " ": 1,
	} {
		lookWrong(t, s, at, api.ErrRoot)
	}
}

func TestP6_1Deep(t *testing.T) {
	nest := func(n int, within string) string {
		return strings.Repeat("<a>", n) + within + strings.Repeat("</a>", n)
	}
	lookRight(t, nest(33, ""), sample.Doc(sample.Chain(sample.Elem("a"), 32)))
	lookRight(t, nest(32, "<a/>"), sample.Doc(sample.Chain(sample.Elem("a"), 32)))
	lookRight(t, nest(33, "x<!--c--><?i?>"), sample.Doc(sample.Chain(sample.Elem("a", sample.Text("x"), sample.Comment("c"), sample.Instr("i", "")), 32)))
	lookWrong(t, nest(34, ""), 99, api.ErrDeep)
	lookWrong(t, nest(33, "<a/>"), 99, api.ErrDeep)
	lookWrong(t, nest(33, "x<a/>"), 100, api.ErrDeep)
	lookWrong(t, nest(33, "<p:a xmlns:q='' c:d=''/>"), 99, api.ErrDeep)
	lookWrong(t, "<a>"+nest(32, "")+nest(33, ""), 3+32*7+32*3, api.ErrDeep)
	lookWrong(t, nest(33, "</b>"), 99, api.ErrTag)
	lookWrong(t, nest(5000, ""), 99, api.ErrDeep)
}

func TestP6_1Scopes(t *testing.T) {
	in, elem, with := sample.In, sample.Elem, sample.With
	lookRight(t, "<a xmlns='u' xmlns:p='v'><b/><p:b c='1' p:c='2'/><p:b xmlns:p='w'><p:c/><c/></p:b><p:d/><b xmlns=''><c xmlns='x'/><c/></b><c/></a>", sample.Doc(
		in("u", elem("a",
			in("u", elem("b")),
			in("v", with(elem("b"), "", "c", "1", "v", "c", "2")),
			in("w", elem("b", in("w", elem("c")), in("u", elem("c")))),
			in("v", elem("d")),
			elem("b", in("x", elem("c")), elem("c")),
			in("u", elem("c")),
		)),
	))
	lookRight(t, "<xml:a xml:lang='de' xmlns:xml='"+api.SpaceXML+"'><xmlns/></xml:a>", sample.Doc(
		in(api.SpaceXML, with(elem("a", elem("xmlns")), api.SpaceXML, "lang", "de")),
	))
	lookRight(t, "<a z='1' q:b='2' b='3' xmlns:p='v' p:a='4' xmlns:q='u' q:a=''/>", sample.Doc(
		with(elem("a"), "", "b", "3", "", "z", "1", "u", "a", "", "u", "b", "2", "v", "a", "4"),
	))
	lookRight(t, "<a xmlns:p='u'><b xmlns:q='v'/><q:b xmlns:q='w'></q:b></a>", root(elem("b"), in("w", elem("b"))))
	// What an element declares is let go where it ends, be it a lone one or not.
	lookWrong(t, "<a><b xmlns:p='u'/><p:c/></a>", 19, api.ErrPrefix)
	lookWrong(t, "<a><b xmlns:p='u'></b><c p:d=''/></a>", 22, api.ErrPrefix)
	lookWrong(t, "<a><p:b/><b xmlns:p='u'/></a>", 3, api.ErrPrefix)
}

func long(n int) string { return strings.Repeat("x", n) }

func TestP6_1OpeningErrors(t *testing.T) {
	for tag, want := range map[string]api.Errno{
		"<b xmlns:xmlns='u'": api.ErrReserved, "<b xmlns='" + api.SpaceXML + "'": api.ErrReserved, "<b xmlns:p='" + api.SpaceXMLNS + "'": api.ErrReserved, "<b xmlns:xml='u'": api.ErrReserved,
		"<b xmlns:p=''": api.ErrPrefix, "<b xmlns='" + long(101) + "'": api.ErrLong, "<b xmlns:p='" + long(101) + "'": api.ErrLong,
		"<xmlns:b": api.ErrReserved, "<p:b": api.ErrPrefix, "<p:b xmlns:q='u'": api.ErrPrefix,
		"<b p:c=''": api.ErrPrefix, "<b c='' p:c=''": api.ErrPrefix, "<b xmlns:p='u' xmlns:q='u' p:c='' q:c=''": api.ErrTwice,
		"<b c='" + long(8193) + "'": api.ErrLimit, "<b c='" + long(8191) + "é' d=''": api.ErrLimit, "<b" + many(65): api.ErrLimit,
		// Open's ahead of Element's, these ahead of Attrs', and these ahead of the limits.
		"<p:b q:c='' xmlns='" + long(101) + "'": api.ErrLong, "<xmlns:b xmlns:q=''": api.ErrPrefix, "<xmlns:b p:c=''": api.ErrReserved,
		"<p:b xmlns:r='u' xmlns:q='u' r:c='' q:c=''": api.ErrPrefix, "<b xmlns:r='u' xmlns:q='u' r:c='' q:c=''" + many(65): api.ErrTwice,
		"<b d='" + long(8193) + "' p:c=''": api.ErrPrefix, "<xmlns:b" + many(65): api.ErrReserved,
	} {
		for _, end := range []string{"/>", "></b>", "></c>"} {
			lookWrong(t, tag+end, 0, want)
			lookWrong(t, "<a>\r\nx"+tag+end+"</a>", 5, want)
			lookWrong(t, "<a/>"+tag+end, 4, api.ErrRoot)
		}
	}
	lookWrong(t, "<b xmlns='"+long(8193)+"'/>", 0, api.ErrLong)
	lookRight(t, "<a xmlns='"+long(100)+"'/>", sample.Doc(sample.In(long(100), sample.Elem("a"))))
	lookRight(t, "<a b='"+long(8192)+"' c='"+strings.Repeat("&#10;", 8192)+"'/>", sample.Doc(sample.With(sample.Elem("a"), "", "b", long(8192), "", "c", strings.Repeat("\n", 8192))))
}

// many is that many attributes, as they are written.
func many(n int) string {
	s := ""
	for i := range n {
		s += " m" + strconv.Itoa(i) + "=''"
	}
	return s
}

func TestP6_1Attributes(t *testing.T) {
	d, at, e := Parse([]byte("<a" + many(64) + "/>"))
	if at != 0 || e != api.OK || len(d.Kids[0].Attrs) != 64 || tree.Check(d) != api.OK {
		t.Errorf("64 attributes: %d, %d", at, e)
	}
	// What declares is no attribute.
	spaces := ""
	for i := range 100 {
		spaces += " xmlns:p" + strconv.Itoa(i) + "='u'"
	}
	d, at, e = Parse([]byte("<a" + many(32) + spaces + many(64)[len(many(32)):] + "/>"))
	if at != 0 || e != api.OK || len(d.Kids[0].Attrs) != 64 {
		t.Errorf("64 attributes beside what declares: %d, %d", at, e)
	}
	lookWrong(t, "<a"+many(65)+"/>", 0, api.ErrLimit)
}

func TestP6_1Nodes(t *testing.T) {
	head := "<a>" + strings.Repeat("<b/>", 1998)
	for _, last := range []string{"<b/>", "<b></b>", "<!---->", "<?i?>", "x", data("x"), data("x") + data("y"), "x" + data("") + "y"} {
		d, at, e := Parse([]byte(head + data("") + last + "</a>"))
		if at != 0 || e != api.OK || tree.Size(d) != 2001 || tree.Check(d) != api.OK {
			t.Errorf("2000 nodes with %s: %d nodes, %d, %d", last, tree.Size(d)-1, at, e)
		}
		lookWrong(t, head+"<b/>"+data("")+last+"</b>", len(head)+4+12, api.ErrLimit)
	}
	lookWrong(t, head+"x"+data("y")+"<!---->"+data("")+"z</a>", len(head)+1+13, api.ErrLimit)
	lookWrong(t, head+"x</a> <!----> ", len(head)+1+4+1, api.ErrLimit)
	lookWrong(t, "<?i?>"+head+"<b></b></a>", 5+len(head), api.ErrLimit)
	lookWrong(t, "<?i?>"+head+"<b></c></a>", 5+len(head), api.ErrLimit)
	lookWrong(t, head+"<!----><p:b/></a>", len(head)+7, api.ErrPrefix)
	lookWrong(t, head+"<!----></b>", len(head)+7, api.ErrTag)
	lookWrong(t, head+"<!---->", len(head)+7, api.ErrTag)
	lookWrong(t, strings.Repeat("<!---->", 2000), 14000, api.ErrRoot)
	lookWrong(t, strings.Repeat("<!---->", 2001), 14000, api.ErrLimit)
	lookWrong(t, strings.Repeat("<!---->", 2000)+"<a/>", 14000, api.ErrLimit)
}

// TestP6_1Memory: an answer is new memory, and bytes that are handed in stay.
func TestP6_1Memory(t *testing.T) {
	room := []byte("<a xmlns:p='u' b='1' p:c='2'>\r\nx<b d='3'/><?i y?><c><d/>z</c></a><!--e-->spare")
	given, before := room[:len(room)-5], bytes.Clone(room)
	first, _, e := Parse(given)
	second, _, f := Parse(given)
	if e != api.OK || f != api.OK || !reflect.DeepEqual(first, second) {
		t.Fatalf("%q, %d; %q, %d", line(first), e, line(second), f)
	}
	want := line(second)
	sample.Spoil(first)
	if !bytes.Equal(room, before) {
		t.Errorf("what was handed in is %q", room)
	}
	clear(room)
	if line(second) != want {
		t.Errorf("%q became %q", want, line(second))
	}
	lookApart(t, second)
}

// lookApart spoils the lists of a tree one after the other, spare room too, and looks whether others are spoilt by that.
func lookApart(t *testing.T, d api.Node) {
	t.Helper()
	for path, n := range tree.All(d) {
		at := &d
		for _, kid := range path {
			at = &at.Kids[kid]
		}
		if !tree.Equal(*at, n) {
			t.Errorf("%v is spoilt: %q", path, line(*at))
		}
		clear(at.Attrs[:cap(at.Attrs)])
		room := at.Kids[len(at.Kids):cap(at.Kids)]
		for i := range room {
			room[i] = sample.Text("spoilt")
		}
	}
}

func TestP1(t *testing.T) {
	pieces := []string{"", "<", ">", "/", "a", "<a>", "</a>", "<a/>", "<p:a", " xmlns:p='u'", " b='", "'", "&", "&lt;", "<!--", "-->", "<![CDATA[", "]]>", "<?i", "?>", "<!DOCTYPE", "\x00", "\xff", "\r", " ", "<?xml version='1.0'?>", "\xef\xbb\xbf"}
	for _, x := range pieces {
		for _, y := range pieces {
			for _, z := range pieces {
				lookOdd(t, x+y+z)
				lookOdd(t, "<a>"+x+y+z+"</a>")
			}
		}
	}
	lookOdd(t, strings.Repeat("<", 70000))
	lookOdd(t, strings.Repeat("<a>", 20000))
	lookOdd(t, strings.Repeat("</a>", 16000))
	lookWrong(t, strings.Repeat("<a>", 30000), 0, api.ErrLong)
	if d, at, e := Parse(nil); at != 0 || e != api.ErrRoot || !reflect.DeepEqual(d, api.Node{}) {
		t.Errorf("Parse(nil) = %q, %d, %d", line(d), at, e)
	}
}

// lookOdd: beside an error nothing is told but a place, what is right is so for tree too, and the second time the same is told.
func lookOdd(t *testing.T, s string) {
	t.Helper()
	d, at, e := Parse([]byte(s))
	d2, at2, e2 := Parse([]byte(s))
	if !reflect.DeepEqual(d, d2) || at != at2 || e != e2 {
		t.Errorf("%.80q: %q, %d, %d, then %q, %d, %d", s, line(d), at, e, line(d2), at2, e2)
	}
	if e != api.OK && (!reflect.DeepEqual(d, api.Node{}) || at < 0 || at > len(s)) || e == api.OK && (at != 0 || tree.Check(d) != api.OK) {
		t.Errorf("Parse(%.80q) = %q, %d, %d", s, line(d), at, e)
	}
}
