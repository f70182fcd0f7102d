package canon

import (
	"bytes"
	"reflect"
	"runtime/debug"
	"slices"
	"strconv"
	"strings"
	"testing"

	"lectern/api"
	"lectern/parse"
	"lectern/sample"
	"lectern/tree"
)

func lookWrite(t *testing.T, d api.Node, want string) {
	t.Helper()
	before := tree.Copy(d)
	b, e := Write(d)
	if e != api.OK || string(b) != want {
		t.Errorf("Write = %.300q, %d, not %.300q", b, e, want)
	}
	if !reflect.DeepEqual(d, before) {
		t.Errorf("Write of %.300q changes it", want)
	}
	if again, at, e := parse.Parse(b); at != 0 || e != api.OK || !tree.Equal(again, d) {
		t.Errorf("%.300q is read as another one: %d, %d", b, at, e)
	}
}

func lookRefused(t *testing.T, d api.Node, want api.Errno) {
	t.Helper()
	if b, e := Write(d); e != want || len(b) != 0 {
		t.Errorf("Write = %.200q, %d, not %d", b, e, want)
	}
}

func TestExample(t *testing.T) {
	d := sample.Doc(sample.In("u", sample.With(sample.Elem("a", sample.Elem("c")), "", "b", "1<")))
	lookWrite(t, d, `<n1:a xmlns:n1="u" b="1&lt;"><c></c></n1:a>`+"\n")
	if l := Prefixes(d); !slices.Equal(l, []string{"u"}) {
		t.Errorf("Prefixes = %q", l)
	}
}

func TestP7_2OfTheWhole(t *testing.T) {
	for s, want := range map[string]string{
		"<x b='1'/>":             `<x b="1"></x>` + "\n",
		`<x b="1"></x>`:          `<x b="1"></x>` + "\n",
		"<p:x xmlns:p='u'/>":     `<n1:x xmlns:n1="u"></n1:x>` + "\n",
		"<x xmlns='u'><y/>t</x>": `<n1:x xmlns:n1="u"><n1:y></n1:y>t</n1:x>` + "\n",
	} {
		d, _, e := parse.Parse([]byte(s))
		if e != api.OK {
			t.Fatalf("%s: %d", s, e)
		}
		lookWrite(t, d, want)
	}
}

func TestP7_1Prefixes(t *testing.T) {
	in, elem, with, doc := sample.In, sample.Elem, sample.With, sample.Doc
	for _, c := range []struct {
		n    api.Node
		want []string
	}{
		{api.Node{}, nil},
		{doc(elem("a")), nil},
		{in(api.SpaceXML, elem("a")), nil},
		{with(elem("a"), api.SpaceXML, "lang", "de"), nil},
		{with(elem("a"), "", "b", "u"), nil},
		{in("u", elem("a")), []string{"u"}},
		{doc(with(elem("a"), "u", "b", "")), []string{"u"}},
		{doc(in("v", elem("a", in("u", elem("b")), elem("c", in("v", with(elem("d"), "w", "b", "", api.SpaceXML, "b", "")))))), []string{"u", "v", "w"}},
		{doc(in("b", elem("a", in("B", elem("a", in("é", elem("a")))), in("a\x00", elem("a")), in("aa", elem("a")), in("a", elem("a"))))), []string{"B", "a", "a\x00", "aa", "b", "é"}},
		// Those of XML stand between others, and aren't counted.
		{doc(in("z", elem("a", in(api.SpaceXML, elem("a", in("a", elem("a")), in(api.SpaceXML+"/", elem("a"))))))), []string{"a", api.SpaceXML + "/", "z"}},
		// Any nodes: wrong ones, too.
		{in("u", sample.Comment("c")), []string{"u"}},
		{with(api.Node{Kind: 9, Kids: []api.Node{in("\xff", sample.Text("")), in(api.SpaceXMLNS, elem(""))}}, "t", "", ""), []string{api.SpaceXMLNS, "t", "\xff"}},
	} {
		before := tree.Copy(c.n)
		l := Prefixes(c.n)
		if !slices.Equal(l, c.want) {
			t.Errorf("Prefixes = %q, not %q", l, c.want)
		}
		l = append(l, "room")
		for i := range l {
			l[i] = "spoilt"
		}
		if again := Prefixes(c.n); !slices.Equal(again, c.want) || !reflect.DeepEqual(c.n, before) {
			t.Errorf("Prefixes = %q the second time, not %q", again, c.want)
		}
	}
}

func TestP7_2Kids(t *testing.T) {
	c, i := sample.Comment, sample.Instr
	lookWrite(t, sample.Doc(sample.Elem("a")), "<a></a>\n")
	lookWrite(t, sample.Doc(c("x"), i("i", "y z "), sample.Elem("a"), c(""), i("j", "")), "<!--x-->\n<?i y z ?>\n<a></a>\n<!---->\n<?j?>\n")
	lookWrite(t, sample.Doc(c("<&>\"'\t\n]]>"), sample.Elem("a"), i("i", "<&>\"'\t\n]]>?")), "<!--<&>\"'\t\n]]>-->\n<a></a>\n<?i <&>\"'\t\n]]>??>\n")
	lookWrite(t, sample.Doc(sample.Elem("a",
		sample.Text("x"), c("c"), sample.Text("\n"), i("i", ""), sample.Elem("b", sample.Text(" ")), sample.Elem("c"), i("i", "x"), sample.Text("y"),
	)), "<a>x<!--c-->\n<?i?><b> </b><c></c><?i x?>y</a>\n")
	lookWrite(t, sample.Doc(sample.Chain(sample.Text("x"), 33)), strings.Repeat("<a>", 33)+"x"+strings.Repeat("</a>", 33)+"\n")
}

func TestP7_2Quoting(t *testing.T) {
	const s = "a&b<c>d\"e'f\tg\nh\ri \u0085é\U0001f600]]>&lt;"
	const text = "a&amp;b&lt;c&gt;d\"e'f\tg\nh&#13;i \u0085é\U0001f600]]&gt;&amp;lt;"
	const value = "a&amp;b&lt;c>d&quot;e'f&#9;g&#10;h&#13;i \u0085é\U0001f600]]>&amp;lt;"
	lookWrite(t, sample.Doc(sample.Elem("a", sample.Text(s))), "<a>"+text+"</a>\n")
	lookWrite(t, sample.Doc(sample.With(sample.Elem("a"), "", "b", s, "", "c", "")), `<a b="`+value+`" c=""></a>`+"\n")
	lookWrite(t, sample.Doc(sample.In(s, sample.Elem("a"))), `<n1:a xmlns:n1="`+value+`"></n1:a>`+"\n")
}

func TestP7_2Names(t *testing.T) {
	in, elem, with := sample.In, sample.Elem, sample.With
	d := sample.Doc(sample.Comment(""), in("v", with(elem("a",
		with(elem("b"), "", "c", "1", "a", "c", "2", "v", "c", "3"),
		in(api.SpaceXML, with(elem("b", in("w", elem("xmlns"))), api.SpaceXML, "c", "1", "u", "xmlns", "2")),
		elem("xmlns"),
	), "", "xml", "0", api.SpaceXML, "lang", "de", "w", "b", "1")))
	lookWrite(t, d, `<!---->
<n3:a xmlns:n1="a" xmlns:n2="u" xmlns:n3="v" xmlns:n4="w" xml="0" xml:lang="de" n4:b="1">`+
		`<b c="1" n1:c="2" n3:c="3"></b>`+
		`<xml:b xml:c="1" n2:xmlns="2"><n4:xmlns></n4:xmlns></xml:b>`+
		`<xmlns></xmlns></n3:a>
`)
	// The spaces of XML are declared nowhere, those that others have are declared by the document's element alone.
	lookWrite(t, sample.Doc(in(api.SpaceXML, elem("a", in("u", elem("b"))))), `<xml:a xmlns:n1="u"><n1:b></n1:b></xml:a>`+"\n")
	lookWrite(t, sample.Doc(elem("n1", elem("n2", in("u", elem("n1"))))), `<n1 xmlns:n1="u"><n2><n1:n1></n1:n1></n2></n1>`+"\n")
}

// TestP7_2ManySpaces: numbers of more than a digit, in the order of the spaces.
func TestP7_2ManySpaces(t *testing.T) {
	a, want, kids := sample.Elem("a"), "<a", ""
	for i := range 120 {
		space, k := "u"+strconv.Itoa(1000+i), strconv.Itoa(i+1)
		a.Kids = append(a.Kids, sample.In(space, sample.Elem("b")))
		want += " xmlns:n" + k + `="` + space + `"`
		kids += "<n" + k + ":b></n" + k + ":b>"
	}
	lookWrite(t, sample.Doc(a), want+">"+kids+"</a>\n")
	slices.Reverse(a.Kids)
	b, e := Write(sample.Doc(a))
	if e != api.OK || !strings.HasPrefix(string(b), want+"><n120:b></n120:b><n119:b>") {
		t.Errorf("Write = %.300q, %d", b, e)
	}
}

func TestP7_2Refused(t *testing.T) {
	elem, text, doc := sample.Elem, sample.Text, sample.Doc
	for _, c := range []struct {
		d    api.Node
		want api.Errno
	}{
		{api.Node{}, api.ErrKind}, {elem("a"), api.ErrKind}, {doc(text("x"), elem("a")), api.ErrKind},
		{doc(sample.Chain(elem("a"), 33)), api.ErrDeep},
		{doc(elem("a", text(strings.Repeat("x", 8193)))), api.ErrLimit},
		{doc(elem("1")), api.ErrName}, {doc(sample.In(api.SpaceXMLNS, elem("a"))), api.ErrName}, {doc(sample.With(elem("a"), "", "xmlns", "u")), api.ErrName},
		{doc(elem("a", text("\x00"))), api.ErrChar},
		{doc(sample.With(elem("a"), "", "b", "", "", "a", "")), api.ErrOrder},
		{doc(elem("a", text("x"), text("y"))), api.ErrText}, {doc(elem("a"), sample.Comment("--")), api.ErrText},
		{doc(), api.ErrRoot}, {doc(elem("a"), elem("a")), api.ErrRoot},
	} {
		if e := tree.Check(c.d); e != c.want {
			t.Fatalf("Check: %d, not %d", e, c.want)
		}
		lookRefused(t, c.d, c.want)
	}
}

// page is a document of that many bytes.
func page(n int) api.Node {
	a := sample.Elem("a")
	n -= len("<a></a>\n")
	for n > 0 {
		piece := min(n, 8000)
		if left := n - piece; left > 0 && left < len("<!---->") {
			piece -= len("<!---->")
		}
		a.Kids = append(a.Kids, sample.Comment(strings.Repeat("x", piece-len("<!---->"))))
		n -= piece
	}
	return sample.Doc(a)
}

func TestP7_2Long(t *testing.T) {
	for _, n := range []int{8, 100, 8010, 65535, 65536} {
		b, e := Write(page(n))
		if e != api.OK || len(b) != n {
			t.Errorf("a document of %d bytes: %d, %d", n, len(b), e)
		}
		if d, _, e := parse.Parse(b); e != api.OK || !tree.Equal(d, page(n)) {
			t.Errorf("a document of %d bytes is read as another one: %d", n, e)
		}
	}
	lookRefused(t, page(65537), api.ErrLong)
	lookRefused(t, page(100000), api.ErrLong)
	// The last byte of all counts, too, and what quoting adds.
	text, values := sample.Elem("a"), sample.Elem("a")
	for i := range 2 {
		text.Kids = append(text.Kids, sample.Text(strings.Repeat("&", 8192)), sample.Elem("b"))
		values.Attrs = append(values.Attrs, api.Attr{Name: api.Name{Local: "b" + strconv.Itoa(i)}, Value: strings.Repeat(`"`, 8192)})
	}
	lookRefused(t, sample.Doc(text), api.ErrLong)
	lookRefused(t, sample.Doc(values), api.ErrLong)
	wrong := page(100000)
	wrong.Kids = append(wrong.Kids, sample.Comment("-"))
	lookRefused(t, wrong, api.ErrText)
}

// TestP7_2Far: a document may be far longer than what is handed in, for its texts may be one and the same.
func TestP7_2Far(t *testing.T) {
	value, a := strings.Repeat(`"`, 8192), sample.Elem("a")
	var l []api.Attr
	for i := range 64 {
		l = append(l, api.Attr{Name: api.Name{Local: "b" + strconv.Itoa(100+i)}, Value: value})
	}
	for range 199 {
		a.Kids = append(a.Kids, api.Node{Kind: api.Element, Name: api.Name{Local: "b"}, Attrs: l})
	}
	lookRefused(t, sample.Doc(a), api.ErrLong)
}

func TestP7_3Memory(t *testing.T) {
	d := sample.Doc(sample.In("u", sample.Elem("a", sample.Text("x"))))
	first, _ := Write(d)
	second, _ := Write(d)
	want := string(second)
	first = first[:cap(first)]
	for i := range first {
		first[i] = 'z'
	}
	if string(second) != want {
		t.Errorf("%q became %q", want, second)
	}
	third, e := Write(d)
	if e != api.OK || string(third) != want || !tree.Equal(d, sample.Doc(sample.In("u", sample.Elem("a", sample.Text("x"))))) {
		t.Errorf("%q, then %q, %d", want, third, e)
	}
}

// TestP7_3 writes drawn documents: each is read as itself.
func TestP7_3(t *testing.T) {
	d := sample.Dice(7)
	there := map[string]api.Node{}
	for range 6000 {
		n := d.Document()
		b, e := Write(n)
		want := model(n)
		if e != api.OK || string(b) != want {
			t.Fatalf("Write = %q, %d, not %q", b, e, want)
		}
		again, at, e := parse.Parse(b)
		if at != 0 || e != api.OK || !tree.Equal(again, n) {
			t.Fatalf("%q is read as another one: %d, %d", b, at, e)
		}
		if c, e := Write(again); e != api.OK || !bytes.Equal(b, c) {
			t.Fatalf("%q is written as %q the second time: %d", b, c, e)
		}
		if other, ok := there[string(b)]; ok && !tree.Equal(other, n) {
			t.Fatalf("two documents are written as %q", b)
		}
		there[string(b)] = n
	}
}

// TestP7_3Others: documents that differ in anything are written otherwise.
func TestP7_3Others(t *testing.T) {
	in, elem, with, text, comment, instr := sample.In, sample.Elem, sample.With, sample.Text, sample.Comment, sample.Instr
	there := map[string]int{}
	l := []api.Node{
		elem("a"), elem("b"), in("u", elem("a")), in("v", elem("a")), in(api.SpaceXML, elem("a")), elem("a", text("x")), elem("a", text("y")), elem("a", text(" ")), elem("a", text("\n")), elem("a", text("\r")), elem("a", text("\r\n")), elem("a", text("&#13;")), elem("a", text("<b></b>")), elem("a", elem("b")), elem("a", comment("b")), elem("a", text("<!--b-->")),
		elem("a", comment("")), elem("a", instr("b", "")), elem("a", instr("b", "c")), elem("a", instr("bc", "")), elem("a", text("x"), comment("")), elem("a", comment(""), text("x")), elem("a", elem("b"), elem("b")), elem("a", elem("b", elem("b"))),
		with(elem("a"), "", "b", ""), with(elem("a"), "", "b", "1"), with(elem("a"), "", "b", " "), with(elem("a"), "", "b", "\t"), with(elem("a"), "", "b", "\n"), with(elem("a"), "", "b", "\r"), with(elem("a"), "u", "b", "1"), with(elem("a"), "v", "b", "1"), with(elem("a"), "", "b", `" c="`), with(elem("a"), "", "b", "", "", "c", ""), with(elem("a"), "", "c", ""), with(elem("a"), "", "b", "&quot; c=&quot;"),
		elem("a", in("u", elem("b"))), elem("a", in("u", elem("b", elem("b")))), elem("a", in("u", elem("b", in("u", elem("b"))))), in("u", elem("a", elem("b"))),
	}
	for i, n := range l {
		b, e := Write(sample.Doc(n))
		if k, ok := there[string(b)]; ok || e != api.OK {
			t.Errorf("%q, %d, as the number %d", b, e, k)
		}
		there[string(b)] = i
	}
}

func TestP1(t *testing.T) {
	defer debug.SetMaxStack(debug.SetMaxStack(1 << 20))
	deep := sample.Doc(sample.Chain(sample.In("u", sample.Elem("b")), 200000))
	lookRefused(t, deep, api.ErrDeep)
	if l := Prefixes(deep); !slices.Equal(l, []string{"u"}) {
		t.Errorf("Prefixes = %q", l)
	}
	for kind := -1; kind <= 6; kind++ {
		for _, n := range []api.Node{{Kind: kind}, {Kind: kind, Name: api.Name{URI: "\xff"}, Text: "\x00", Attrs: []api.Attr{{}, {}}, Kids: []api.Node{{}, {Kind: kind}}}} {
			for _, d := range []api.Node{n, sample.Doc(n), sample.Doc(sample.Elem("a", n)), sample.Doc(n, n)} {
				b, e := Write(d)
				if want := tree.Check(d); e != want || e != api.OK && len(b) > 0 {
					t.Errorf("Write = %q, %d, not %d", b, e, want)
				}
				if l := Prefixes(d); !slices.Equal(l, Prefixes(tree.Copy(d))) {
					t.Errorf("Prefixes = %q", l)
				}
			}
		}
	}
}
