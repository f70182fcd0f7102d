package tree

import (
	"math"
	"runtime/debug"
	"slices"
	"strconv"
	"strings"
	"testing"

	"lectern/api"
)

// lookKid looks for the error of a document in which n stands somewhere within the elements.
func lookKid(t *testing.T, n api.Node, want api.Errno) {
	t.Helper()
	what := strconv.Quote(n.Name.URI) + " " + strconv.Quote(n.Name.Local) + ", kind " + strconv.Itoa(n.Kind) + ", text " + strconv.Quote(n.Text)
	lookCheck(t, what, doc(elem("a", n)), want)
	lookCheck(t, what, doc(comment("c"), elem("a", elem("b", text("x"), n, elem("c"), text("y")), elem("d")), instr("i", "")), want)
	lookCheck(t, what, doc(elem("a", elem("b"), elem("b", elem("c", elem("d", n))))), want)
}

// lookTop looks for the error of n within the elements, and among the document's kids.
func lookTop(t *testing.T, n api.Node, want api.Errno) {
	t.Helper()
	lookKid(t, n, want)
	if n.Kind == api.Element {
		lookCheck(t, "one root", doc(n), want)
		return
	}
	lookCheck(t, "ahead of the root", doc(n, elem("a")), want)
	lookCheck(t, "behind the root", doc(elem("a", text("x")), comment(""), n), want)
}

func TestP5_1Right(t *testing.T) {
	for _, d := range []api.Node{
		rich(), example(), doc(elem("a")), doc(elem("xml")), doc(elem("xmlns")), doc(instr("i", ""), elem("a"), instr("i", "")), doc(comment(""), comment(""), elem("a")),
		doc(elem("a", text("x"), comment(""), text("y"), instr("i", ""), text("z"), elem("b"), text(" "))),
		doc(elem("a", text("\r\n\t]]>&<\ufffd\U0001f600"), with(elem("b"), "", "c", "\r\n\t\"'<&"))),
		doc(within(api.SpaceXML, with(elem("a"), api.SpaceXML, "xmlns", "1"))),
		doc(with(elem("a"), "", "XMLNS", "1", "", "xml", "2", "u", "xmlns", "3")),
	} {
		lookCheck(t, "a right document", d, api.OK)
	}
}

func TestP5_1KindOfDocument(t *testing.T) {
	for _, kind := range []int{0, api.Element, api.Text, api.Comment, api.Instr, 6, -1, math.MaxInt, math.MinInt} {
		d := rich()
		d.Kind = kind
		lookCheck(t, "a document of another kind", d, api.ErrKind)
		lookCheck(t, "nothing but a kind", api.Node{Kind: kind}, api.ErrKind)
		if kind != api.Element && kind != api.Text && kind != api.Comment && kind != api.Instr {
			lookTop(t, api.Node{Kind: kind}, api.ErrKind)
			lookTop(t, api.Node{Kind: kind, Name: api.Name{Local: "a"}}, api.ErrKind)
		}
	}
	lookCheck(t, "an element", elem("a"), api.ErrKind)
	lookTop(t, doc(), api.ErrKind)
	lookTop(t, doc(elem("a")), api.ErrKind)
	lookCheck(t, "a text at the top", doc(text("x")), api.ErrKind)
	lookCheck(t, "a text at the top", doc(text(""), elem("a"), text("")), api.ErrKind)
	lookCheck(t, "a text at the top", doc(elem("a"), text("\n")), api.ErrKind)
}

// TestP5_1KindOfParts: what a kind hasn't.
func TestP5_1KindOfParts(t *testing.T) {
	for _, n := range []api.Node{text("x"), comment("x"), instr("i", "x"), instr("i", "")} {
		for _, kid := range []api.Node{elem("a"), text("x"), comment(""), instr("i", ""), {}, doc()} {
			m := n
			m.Kids = []api.Node{kid}
			lookTop(t, m, api.ErrKind)
		}
		lookTop(t, with(n, "", "b", "1"), api.ErrKind)
		lookTop(t, with(n, "", "", ""), api.ErrKind)
		lookTop(t, within("u", n), api.ErrKind)
		if n.Kind != api.Instr {
			m := n
			m.Name.Local = "a"
			lookTop(t, m, api.ErrKind)
		}
	}
	long := elem("a")
	long.Text = "x"
	lookTop(t, long, api.ErrKind)
	for _, change := range []func(d *api.Node){
		func(d *api.Node) { d.Name.Local = "a" }, func(d *api.Node) { d.Name.URI = "u" }, func(d *api.Node) { d.Text = "x" }, func(d *api.Node) { *d = with(*d, "", "b", "1") },
	} {
		d := rich()
		change(&d)
		lookCheck(t, "a document with more", d, api.ErrKind)
	}
}

func TestP5_1Deep(t *testing.T) {
	for _, n := range []api.Node{text("x"), comment("x"), instr("i", "x"), elem("b")} {
		lookCheck(t, "a node below 32 elements", doc(chain(n, 32)), api.OK)
		want := api.OK
		if n.Kind == api.Element {
			want = api.ErrDeep
		}
		lookCheck(t, "a node below 33 elements", doc(chain(n, 33)), want)
		lookCheck(t, "a node below 33 elements, behind others", doc(comment(""), elem("a", text("x"), elem("a"), chain(n, 32), elem("b"))), want)
		lookCheck(t, "a node below 34 elements", doc(chain(n, 34)), api.ErrDeep)
	}
	lookCheck(t, "a deep one beside a flat one", doc(elem("a", chain(elem("b", text("x"), elem("c")), 31), elem("b"))), api.ErrDeep)
}

// crowd is that many nodes, the document not counted.
func crowd(n int) api.Node {
	a := elem("a")
	for i := 1; i < n; i++ {
		switch i % 3 {
		case 0:
			a.Kids = append(a.Kids, text("x"))
		case 1:
			a.Kids = append(a.Kids, comment("x"))
		case 2:
			a.Kids = append(a.Kids, elem("b"))
		}
	}
	return doc(a)
}

func TestP5_1Many(t *testing.T) {
	for n, want := range map[int]api.Errno{1999: api.OK, 2000: api.OK, 2001: api.ErrLimit, 2002: api.ErrLimit, 9000: api.ErrLimit} {
		d := crowd(n)
		if Size(d) != n+1 {
			t.Fatalf("%d nodes, not %d", Size(d)-1, n)
		}
		lookCheck(t, strconv.Itoa(n)+" nodes", d, want)
	}
	lookCheck(t, "2000 nodes and a comment at the top", doc(comment(""), crowd(2000).Kids[0]), api.ErrLimit)
	deep := crowd(1990)
	deep.Kids[0].Kids = append(deep.Kids[0].Kids, chain(text("x"), 9))
	lookCheck(t, "2000 nodes, some deep", deep, api.OK)
	deep.Kids[0].Kids = append(deep.Kids[0].Kids, text("x"))
	lookCheck(t, "2001 nodes, some deep", deep, api.ErrLimit)
}

func TestP5_1Large(t *testing.T) {
	var words []string
	for i := range 65 {
		words = append(words, "", "b"+strconv.Itoa(100+i), "1")
	}
	lookTop(t, with(elem("b"), words[:64*3]...), api.OK)
	lookTop(t, with(elem("b"), words...), api.ErrLimit)
	for _, s := range []string{strings.Repeat("x", 8192), strings.Repeat("é", 4096)} {
		lookTop(t, comment(s), api.OK)
		lookTop(t, instr("i", s), api.OK)
		lookTop(t, with(elem("b"), "", "b", s, "", "c", s), api.OK)
		lookTop(t, elem("b", text(s)), api.OK)
		s += "x"
		lookTop(t, comment(s), api.ErrLimit)
		lookTop(t, instr("i", s), api.ErrLimit)
		lookTop(t, with(elem("b"), "", "b", s), api.ErrLimit)
		lookTop(t, with(elem("b"), "", "b", "", "", "c", s, "", "d", ""), api.ErrLimit)
		lookTop(t, elem("b", text(s)), api.ErrLimit)
	}
}

func TestP5_1Names(t *testing.T) {
	for _, local := range []string{"a", "_", "é-1.x", "xml", "XML", "xmlns", strings.Repeat("a", 100), strings.Repeat("é", 50)} {
		for _, space := range []string{"u", " ", "u\r\n<\"", api.SpaceXML, strings.Repeat("u", 100), strings.Repeat("é", 50), api.SpaceXMLNS + "/"} {
			lookTop(t, within(space, elem(local)), api.OK)
			lookTop(t, with(elem("b"), space, local, "1"), api.OK)
		}
		lookTop(t, elem(local), api.OK)
		want := api.OK
		if local == "xmlns" {
			want = api.ErrName
		}
		lookTop(t, with(elem("b"), "", local, "1"), want)
		want = api.OK
		if strings.ToLower(local) == "xml" {
			want = api.ErrName
		}
		lookTop(t, instr(local, "x"), want)
	}
	lookTop(t, instr("xmlns", ""), api.OK)
	lookTop(t, instr("xml-a", ""), api.OK)
	lookTop(t, with(elem("b"), "", "XMLNS", "1", "", "xmlnsx", "1"), api.OK)
}

func TestP5_1NoNames(t *testing.T) {
	for _, local := range []string{"", "1a", "-", "a b", "a:b", ":", "a\x00", "\xff", "a\xff", strings.Repeat("a", 101), strings.Repeat("é", 51)} {
		for _, space := range []string{"", "u"} {
			lookTop(t, within(space, elem(local)), api.ErrName)
			lookTop(t, with(elem("b"), space, local, "1"), api.ErrName)
			lookTop(t, with(elem("b"), "", "a", "1", space, local, "1"), api.ErrName)
		}
		lookTop(t, instr(local, "x"), api.ErrName)
	}
	for _, local := range []string{"xml", "XML", "Xml", "xMl", "xmL"} {
		lookTop(t, instr(local, "x"), api.ErrName)
		lookTop(t, instr(local, ""), api.ErrName)
	}
	for _, space := range []string{api.SpaceXMLNS, strings.Repeat("u", 101), strings.Repeat("é", 51), "\x00", "u\xff", "\ufffe", "u\xed\xa0\x80"} {
		lookTop(t, within(space, elem("b")), api.ErrName)
		lookTop(t, with(elem("b"), space, "c", "1"), api.ErrName)
		lookTop(t, with(elem("b"), "", "a", "1", space, "c", "1", "u", "c", "1"), api.ErrName)
	}
}

func TestP5_1Chars(t *testing.T) {
	for _, s := range []string{"\x00", "x\x08", "\xff", "x\xc3", "\ufffe", "x\uffff", "\xed\xa0\x80", "é\x1f"} {
		lookKid(t, elem("b", text(s)), api.ErrChar)
		lookTop(t, comment(s), api.ErrChar)
		lookTop(t, instr("i", s), api.ErrChar)
		lookTop(t, with(elem("b"), "", "c", s), api.ErrChar)
		lookTop(t, with(elem("b"), "", "c", "", "", "d", s, "u", "c", "x"), api.ErrChar)
	}
}

func TestP5_1Order(t *testing.T) {
	right := []string{"", "B", "1", "", "a", "2", "", "aa", "3", "", "é", "4", "U", "z", "5", "u", "a", "6", "u", "b", "7", "v", "a", "8"}
	lookTop(t, with(elem("b"), right...), api.OK)
	for i := 0; i < len(right); i += 3 {
		twice := slices.Insert(slices.Clone(right), i, right[i], right[i+1], "other")
		lookTop(t, with(elem("b"), twice...), api.ErrOrder)
		if i > 0 {
			turned := slices.Clone(right)
			for k := range 3 {
				turned[i+k], turned[i+k-3] = turned[i+k-3], turned[i+k]
			}
			lookTop(t, with(elem("b"), turned...), api.ErrOrder)
		}
	}
	lookTop(t, with(elem("b"), "", "a", "1", "", "a", "1"), api.ErrOrder)
	lookTop(t, with(elem("b"), "u", "a", "1", "", "b", "1"), api.ErrOrder)
}

func TestP5_1Texts(t *testing.T) {
	for _, n := range []api.Node{
		text(""), elem("b", text("x"), text("y")), elem("b", elem("c"), text("x"), text(" "), elem("c")), elem("b", comment(""), text("x"), text("x")), elem("b", text("x"), elem("c"), text("y"), text("z")),
	} {
		lookCheck(t, "a text", doc(elem("a", n)), api.ErrText)
		lookCheck(t, "a text", doc(elem("a", elem("b"), elem("c", n, elem("d")))), api.ErrText)
	}
	for _, s := range []string{"--", "-", "x-", "x--y", "---", "- -", "\r", "x\r\ny", "--x", "-->"} {
		lookTop(t, comment(s), api.ErrText)
	}
	for _, s := range []string{"", "x", "-x", "x- ", "- - x", "->", ">", "\n", "?>", "<&]]>", " x "} {
		lookTop(t, comment(s), api.OK)
	}
	for _, s := range []string{"?>", "x?>y", "??>", "\r", "x\r", "x\r\n", " ", " x", "\tx", "\nx", "\rx", "\n"} {
		lookTop(t, instr("i", s), api.ErrText)
	}
	for _, s := range []string{"", "x", "?", "> ?", "x ? >", "x ", "x\n\ty ", "--", "-", "\u00a0x", "<&]]>"} {
		lookTop(t, instr("i", s), api.OK)
	}
}

func TestP5_1Root(t *testing.T) {
	lookCheck(t, "nothing", doc(), api.ErrRoot)
	lookCheck(t, "no element", doc(comment("a"), instr("i", "")), api.ErrRoot)
	lookCheck(t, "two elements", doc(elem("a"), comment(""), elem("b")), api.ErrRoot)
	lookCheck(t, "three elements", doc(elem("a"), elem("a"), elem("a")), api.ErrRoot)
}

// faults is for each error, in the order in which they are asked, nodes that are wrong so and not otherwise.
func faults() [][]api.Node {
	long, named := elem("k"), comment("x")
	long.Text = "x"
	named.Name.Local = "a"
	var many []string
	for i := range 65 {
		many = append(many, "", "b"+strconv.Itoa(100+i), "1")
	}
	return [][]api.Node{
		{{}, doc(), long, named, with(comment(""), "", "b", "1"), within("u", instr("i", ""))},
		{chain(elem("a"), 33)},
		{with(elem("k"), many...), comment(strings.Repeat("x", 8193)), with(elem("k"), "", "b", strings.Repeat("x", 8193))},
		{elem(""), within("\xff", elem("k")), with(elem("k"), "", "xmlns", "1"), with(elem("k"), strings.Repeat("u", 101), "b", "1"), instr("xml", ""), instr("1", "")},
		{comment("\x00"), instr("i", "\xff"), with(elem("k"), "", "b", "\ufffe"), elem("k", text("\xff"))},
		{with(elem("k"), "", "b", "1", "", "a", "1"), with(elem("k"), "", "b", "1", "", "b", "1")},
		{elem("k", text("")), elem("k", text("x"), text("y")), comment("-"), instr("i", "?>")},
	}
}

func faultErrors() []api.Errno {
	return []api.Errno{api.ErrKind, api.ErrDeep, api.ErrLimit, api.ErrName, api.ErrChar, api.ErrOrder, api.ErrText}
}

// TestP5_1First: of the errors of several nodes the one that is asked first is told, wherever these stand.
func TestP5_1First(t *testing.T) {
	all, errors := faults(), faultErrors()
	for i, l := range all {
		for k, m := range all {
			want := errors[min(i, k)]
			for _, a := range l {
				for _, b := range m {
					lookCheck(t, "two faults", doc(elem("a", a, elem("b"), b)), want)
					lookCheck(t, "two faults", doc(elem("a", elem("b", elem("c", a)), comment(""), b)), want)
					lookCheck(t, "two faults at two roots", doc(elem("a", a), elem("b", elem("c", b))), want)
				}
			}
		}
		for _, a := range l {
			lookCheck(t, "one fault", doc(elem("a", a)), errors[i])
			lookCheck(t, "one fault at two roots", doc(elem("a"), elem("b", a)), errors[i])
		}
	}
}

// TestP5_1FirstOfOne: of the errors of one node, too.
func TestP5_1FirstOfOne(t *testing.T) {
	long := strings.Repeat("\x00", 8193)
	n := with(elem("1"), "", "b", long, "", "b", "\x00")
	n.Kids = []api.Node{text(""), text("")}
	n.Text = "x"
	lookTop(t, n, api.ErrKind)
	n.Text = ""
	lookTop(t, n, api.ErrLimit)
	n.Attrs[0].Value = ""
	lookTop(t, n, api.ErrName)
	n.Name.Local = "a"
	lookTop(t, n, api.ErrChar)
	n.Attrs[1].Value = ""
	lookTop(t, n, api.ErrOrder)
	n.Attrs[1].Name.Local = "c"
	lookTop(t, n, api.ErrText)
	n.Kids = n.Kids[:0]
	lookTop(t, n, api.OK)
	lookTop(t, comment(long+"--"), api.ErrLimit)
	lookTop(t, comment("\x00--"), api.ErrChar)
	lookTop(t, instr("xml", long+"?>"), api.ErrLimit)
	lookTop(t, instr("xml", "\x00?>"), api.ErrName)
	lookTop(t, instr("i", "\x00?>"), api.ErrChar)
}

// TestP1Deep: trees may be deeper than calls within calls could go.
func TestP1Deep(t *testing.T) {
	defer debug.SetMaxStack(debug.SetMaxStack(1 << 20))
	const deep = 200000
	d := doc(chain(within("u", elem("b")), deep))
	if Size(d) != deep+2 || Depth(d) != deep+2 || !slices.Equal(Spaces(d), []string{"u"}) {
		t.Errorf("Size %d, Depth %d, Spaces %q", Size(d), Depth(d), Spaces(d))
	}
	c := Copy(d)
	if !Equal(c, d) {
		t.Error("a copy is another one")
	}
	if e := Check(d); e != api.ErrDeep {
		t.Errorf("Check: %d", e)
	}
	last, e := At(d, make([]int, deep+1))
	if e != api.OK || !Equal(last, within("u", elem("b"))) {
		t.Errorf("At: %+v, %d", last, e)
	}
	if Equal(d, doc(chain(within("v", elem("b")), deep))) {
		t.Error("another one is held for equal")
	}
	n := 0
	for path := range All(d) {
		if len(path) != n {
			t.Errorf("All: a path of %d steps, not %d", len(path), n)
		}
		if n++; n == 5 {
			break
		}
	}
}

// TestP1Wide: nor do many kids matter.
func TestP1Wide(t *testing.T) {
	d := crowd(300000)
	if Size(d) != 300001 || Depth(d) != 3 || !Equal(Copy(d), d) || Check(d) != api.ErrLimit {
		t.Errorf("Size %d, Depth %d, Check %d", Size(d), Depth(d), Check(d))
	}
	d.Kids[0].Kids[299998] = doc()
	if e := Check(d); e != api.ErrKind {
		t.Errorf("Check: %d", e)
	}
}

// TestP1 hands in nodes of all kinds, with all that they haven't.
func TestP1(t *testing.T) {
	var odd []api.Node
	for kind := -1; kind <= 6; kind++ {
		odd = append(odd, api.Node{Kind: kind}, api.Node{Kind: kind, Name: api.Name{URI: "\xff", Local: ""}, Text: "\x00", Attrs: []api.Attr{{}, {}}, Kids: []api.Node{{}, {Kind: kind}}})
	}
	for _, a := range odd {
		for _, b := range odd {
			for _, n := range []api.Node{a, {Kind: a.Kind, Kids: []api.Node{b, a}}, doc(a, b), doc(elem("a", a, b))} {
				lookOdd(t, n)
			}
		}
	}
}

func lookOdd(t *testing.T, n api.Node) {
	t.Helper()
	first := Copy(n)
	size := 0
	for path, kid := range All(n) {
		at, e := At(n, path)
		if e != api.OK || !Equal(at, kid) || Size(kid) < 1 || Depth(kid)+len(path) > Depth(n) {
			t.Errorf("At(%+v, %d) = %+v, %d", n, path, at, e)
		}
		size++
	}
	if size != Size(n) || Check(n) != Check(first) || !slices.Equal(Spaces(n), Spaces(first)) || !Equal(n, first) {
		t.Errorf("%+v: %d nodes, Size %d", n, size, Size(n))
	}
}
