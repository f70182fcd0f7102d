package edit

import (
	"math"
	"runtime/debug"
	"slices"
	"strconv"
	"strings"
	"testing"

	"lectern/api"
	"lectern/parse"
	. "lectern/sample"
	"lectern/tree"
)

func said(t *testing.T, s string) api.Node {
	t.Helper()
	d, at, e := parse.Parse([]byte(s))
	if e != api.OK {
		t.Fatalf("%q: %d, %d", s, at, e)
	}
	return d
}

func name(space, local string) api.Name { return api.Name{URI: space, Local: local} }

// lookEdit holds an edit and its Back against what they should be.
func lookEdit(t *testing.T, d string, e Edit, want string, back Edit) {
	t.Helper()
	from, to := said(t, d), said(t, want)
	if got, f := Apply(from, e); f != api.OK || !tree.Equal(got, to) {
		t.Errorf("%s: %+v: %+v, %d, not %s", d, e, got, f, want)
	}
	back.At = e.At
	if got, f := Back(from, e); f != api.OK || !same(got, back) {
		t.Errorf("%s: Back of %+v: %+v, %d, not %+v", d, e, got, f, back)
	}
	if got, f := Apply(to, back); f != api.OK || !tree.Equal(got, from) {
		t.Errorf("%s: %+v: %+v, %d, not %s", want, back, got, f, d)
	}
}

func lookError(t *testing.T, d api.Node, e Edit, want api.Errno) {
	t.Helper()
	if got, f := Apply(d, e); f != want || !tree.Equal(got, api.Node{}) {
		t.Errorf("%+v: %+v, %d, not %d", e, got, f, want)
	}
	if got, f := Back(d, e); f != want || !same(got, Edit{}) {
		t.Errorf("Back of %+v: %+v, %d, not %d", e, got, f, want)
	}
}

func TestExamples(t *testing.T) {
	const s = `<a b="1">x<c/></a>`
	d := said(t, s)
	lookEdit(t, s, Edit{Op: Insert, At: []int{0, 1}, Node: Elem("e")}, `<a b="1">x<e/><c/></a>`, Edit{Op: Delete})
	lookError(t, d, Edit{Op: Insert, At: []int{0, 1}, Node: Text("y")}, api.ErrText)
	lookError(t, d, Edit{Op: Insert, At: []int{0, 3}, Node: Elem("e")}, api.ErrPath)
	lookError(t, d, Edit{Op: Insert, At: []int{1}, Node: Elem("e")}, api.ErrRoot)
	lookError(t, d, Edit{Op: Delete, At: []int{0}}, api.ErrRoot)
	lookEdit(t, s, Edit{Op: Delete, At: []int{0, 0}}, `<a b="1"><c/></a>`, Edit{Op: Insert, Node: Text("x")})
	lookEdit(t, s, Edit{Op: Set, At: []int{0, 1}, Name: name("", "d"), Text: "2"}, `<a b="1">x<c d="2"/></a>`, Edit{Op: Drop, Name: name("", "d")})
	lookError(t, d, Edit{Op: Set, At: []int{0, 0}, Name: name("", "d"), Text: "2"}, api.ErrKind)
	lookError(t, d, Edit{Op: Drop, At: []int{0}, Name: name("", "d")}, api.ErrNone)
	lookError(t, d, Edit{Op: Write, At: []int{0, 0}}, api.ErrText)
}

func TestOps(t *testing.T) {
	if Insert != 1 || Delete != 2 || Replace != 3 || Set != 4 || Drop != 5 || Write != 6 {
		t.Error("the edits have other numbers")
	}
}

func TestP9_1Insert(t *testing.T) {
	e := func(n api.Node, at ...int) Edit { return Edit{Op: Insert, At: at, Node: n} }
	const s = `<a><b/><c>x</c></a>`
	back := Edit{Op: Delete}
	lookEdit(t, s, e(Text("y"), 0, 0), `<a>y<b/><c>x</c></a>`, back)
	lookEdit(t, s, e(Text("y"), 0, 1), `<a><b/>y<c>x</c></a>`, back)
	lookEdit(t, s, e(Text("y"), 0, 2), `<a><b/><c>x</c>y</a>`, back)
	lookEdit(t, s, e(Text("y"), 0, 0, 0), `<a><b>y</b><c>x</c></a>`, back)
	lookEdit(t, s, e(Elem("d", Text("y"), Elem("e")), 0, 1, 0), `<a><b/><c><d>y<e/></d>x</c></a>`, back)
	lookEdit(t, s, e(With(Elem("d"), "u", "k", "1"), 0, 1, 1), `<a><b/><c>x<d p:k="1" xmlns:p="u"/></c></a>`, back)
	lookEdit(t, s, e(Comment("y"), 0), `<!--y--><a><b/><c>x</c></a>`, back)
	lookEdit(t, s, e(Instr("i", "y"), 1), `<a><b/><c>x</c></a><?i y?>`, back)
	lookEdit(t, `<!--1--><a/><!--2-->`, e(Comment("y"), 1), `<!--1--><!--y--><a/><!--2-->`, back)
	lookEdit(t, `<!--1--><a/><!--2-->`, e(Comment("y"), 2), `<!--1--><a/><!--y--><!--2-->`, back)
	lookEdit(t, `<!--1--><a/><!--2-->`, e(Comment("y"), 3), `<!--1--><a/><!--2--><!--y-->`, back)

	d := said(t, s)
	for _, at := range [][]int{nil, {}, {-1}, {2}, {0, -1}, {0, 3}, {1, 0}, {0, 2, 0}, {0, 0, 1}, {0, 1, 2}, {-1, 0}, {0, 1, 0, 1}, {0, 1, 0, -1}, {0, 1, 0, 0, 0}, {math.MaxInt}, {0, math.MinInt}, {math.MaxInt, 0}} {
		lookError(t, d, e(Elem("d"), at...), api.ErrPath)
		lookError(t, d, e(api.Node{}, at...), api.ErrPath)
	}
	lookError(t, d, e(Elem("d"), 0, 1, 0, 0), api.ErrKind) // a kid of a text
	lookError(t, d, e(Doc(Elem("d")), 0, 0), api.ErrKind)
	lookError(t, d, e(api.Node{}, 0, 0), api.ErrKind)
	lookError(t, d, e(Text("y"), 0), api.ErrKind)
	lookError(t, d, e(Chain(Elem("d"), 32), 0, 0), api.ErrDeep)
	lookError(t, d, e(Comment(strings.Repeat("x", 8193)), 0, 0), api.ErrLimit)
	lookError(t, d, e(Elem(""), 0, 0), api.ErrName)
	lookError(t, d, e(Text("\x00"), 0, 0), api.ErrChar)
	lookError(t, d, e(With(Elem("d"), "", "b", "1", "", "a", "2"), 0, 0), api.ErrOrder)
	lookError(t, d, e(Text("y"), 0, 1, 0), api.ErrText)
	lookError(t, d, e(Text("y"), 0, 1, 1), api.ErrText)
	lookError(t, d, e(Text(""), 0, 0), api.ErrText)
	lookError(t, d, e(Elem("d"), 0), api.ErrRoot)
}

// TestP9_1Limits: edits up to a document's limits, and beyond.
func TestP9_1Limits(t *testing.T) {
	crowd := Doc(Elem("a"))
	for range 1998 {
		crowd.Kids[0].Kids = append(crowd.Kids[0].Kids, Elem("b"))
	}
	e := Edit{Op: Insert, At: []int{0, 7, 0}, Node: Text("x")}
	full, f := Apply(crowd, e)
	if f != api.OK || tree.Size(full) != 2001 {
		t.Fatalf("%d nodes, %d", tree.Size(full), f)
	}
	lookError(t, full, Edit{Op: Insert, At: []int{0, 7, 1}, Node: Elem("c")}, api.ErrLimit)
	lookError(t, full, Edit{Op: Replace, At: []int{0, 8}, Node: Elem("c", Text("x"))}, api.ErrLimit)
	if _, f := Apply(full, Edit{Op: Replace, At: []int{0, 8}, Node: Text("x")}); f != api.OK {
		t.Errorf("Replace in a full one: %d", f)
	}
	if _, f := Apply(full, Edit{Op: Delete, At: []int{0, 7, 0}}); f != api.OK {
		t.Errorf("Delete in a full one: %d", f)
	}
	deep := Doc(Chain(Elem("b"), 32))
	at := make([]int, 34)
	lookError(t, deep, Edit{Op: Insert, At: at, Node: Elem("c")}, api.ErrDeep)
	if out, f := Apply(deep, Edit{Op: Insert, At: at, Node: Text("x")}); f != api.OK || tree.Depth(out) != 35 {
		t.Errorf("a text below 33 elements: %d", f)
	}
	d := Doc(Elem("a"))
	for i := range 64 {
		d, f = Apply(d, Edit{Op: Set, At: []int{0}, Name: name("", "b"+strconv.Itoa(i*37%64)), Text: strings.Repeat("x", 8192)})
		if f != api.OK || len(d.Kids[0].Attrs) != i+1 {
			t.Fatalf("attribute %d: %d", i, f)
		}
	}
	lookError(t, d, Edit{Op: Set, At: []int{0}, Name: name("", "c")}, api.ErrLimit)
	lookError(t, d, Edit{Op: Set, At: []int{0}, Name: name("", "b7"), Text: strings.Repeat("x", 8193)}, api.ErrLimit)
	if d, f = Apply(d, Edit{Op: Set, At: []int{0}, Name: name("", "b7"), Text: "y"}); f != api.OK || len(d.Kids[0].Attrs) != 64 {
		t.Errorf("an attribute set again: %d", f)
	}
}

func TestP9_1DeleteReplace(t *testing.T) {
	const s = `<?i y?><a>x<b><c k="1">y</c></b><!--z--></a><!--w-->`
	c := With(Elem("c", Text("y")), "", "k", "1")
	for _, l := range []struct {
		at   []int
		node api.Node
		gone string
	}{
		{[]int{0}, Instr("i", "y"), `<a>x<b><c k="1">y</c></b><!--z--></a><!--w-->`},
		{[]int{2}, Comment("w"), `<?i y?><a>x<b><c k="1">y</c></b><!--z--></a>`},
		{[]int{1, 0}, Text("x"), `<?i y?><a><b><c k="1">y</c></b><!--z--></a><!--w-->`},
		{[]int{1, 1}, Elem("b", c), `<?i y?><a>x<!--z--></a><!--w-->`},
		{[]int{1, 2}, Comment("z"), `<?i y?><a>x<b><c k="1">y</c></b></a><!--w-->`},
		{[]int{1, 1, 0}, c, `<?i y?><a>x<b/><!--z--></a><!--w-->`},
		{[]int{1, 1, 0, 0}, Text("y"), `<?i y?><a>x<b><c k="1"/></b><!--z--></a><!--w-->`},
	} {
		lookEdit(t, s, Edit{Op: Delete, At: l.at}, l.gone, Edit{Op: Insert, Node: l.node})
	}
	lookEdit(t, s, Edit{Op: Replace, At: []int{1}, Node: Elem("d")}, `<?i y?><d/><!--w-->`, Edit{Op: Replace, Node: said(t, s).Kids[1]})
	lookEdit(t, s, Edit{Op: Replace, At: []int{0}, Node: Comment("v")}, `<!--v--><a>x<b><c k="1">y</c></b><!--z--></a><!--w-->`, Edit{Op: Replace, Node: Instr("i", "y")})
	lookEdit(t, s, Edit{Op: Replace, At: []int{1, 0}, Node: Text("v")}, `<?i y?><a>v<b><c k="1">y</c></b><!--z--></a><!--w-->`, Edit{Op: Replace, Node: Text("x")})
	lookEdit(t, s, Edit{Op: Replace, At: []int{1, 1, 0}, Node: Text("v")}, `<?i y?><a>x<b>v</b><!--z--></a><!--w-->`, Edit{Op: Replace, Node: c})
	lookEdit(t, s, Edit{Op: Replace, At: []int{1, 2}, Node: c}, `<?i y?><a>x<b><c k="1">y</c></b><c k="1">y</c></a><!--w-->`, Edit{Op: Replace, Node: Comment("z")})

	d := said(t, s)
	lookError(t, d, Edit{Op: Delete, At: []int{1}}, api.ErrRoot)
	lookError(t, said(t, `<a>x<b/>y</a>`), Edit{Op: Delete, At: []int{0, 1}}, api.ErrText)
	lookError(t, said(t, `<a>x<b/>y</a>`), Edit{Op: Replace, At: []int{0, 1}, Node: Text("z")}, api.ErrText)
	lookError(t, d, Edit{Op: Replace, At: []int{1}, Node: Comment("v")}, api.ErrRoot)
	lookError(t, d, Edit{Op: Replace, At: []int{0}, Node: Elem("v")}, api.ErrRoot)
	lookError(t, d, Edit{Op: Replace, At: []int{0}, Node: Text("v")}, api.ErrKind)
	lookError(t, d, Edit{Op: Replace, At: []int{1, 1}, Node: Doc()}, api.ErrKind)
	lookError(t, d, Edit{Op: Replace, At: []int{1, 1}}, api.ErrKind)
	lookError(t, d, Edit{Op: Replace, At: []int{1, 1}, Node: Text("v")}, api.ErrText)
	lookError(t, d, Edit{Op: Replace, At: []int{1, 1}, Node: Chain(Elem("v"), 32)}, api.ErrDeep)
}

// TestP9_1Paths: what all edits but Insert ask of their paths.
func TestP9_1Paths(t *testing.T) {
	d := said(t, `<a k="1"><b/>x<!--y--></a><?i z?>`)
	for _, op := range []int{Delete, Replace, Set, Drop, Write} {
		for _, at := range [][]int{nil, {}, {-1}, {2}, {0, -1}, {0, 3}, {1, 0}, {0, 0, 0}, {0, 1, 0}, {0, 2, 0}, {2, 0}, {-1, 0}, {0, 3, 0}, {math.MaxInt}, {math.MinInt}, {0, math.MaxInt}, make([]int, 100)} {
			lookError(t, d, Edit{Op: op, At: at, Name: name("", "k"), Text: "x", Node: Elem("a")}, api.ErrPath)
			lookError(t, d, Edit{Op: op, At: at, Name: name("", ""), Text: "\xff"}, api.ErrPath)
		}
	}
}

func TestP9_1SetDrop(t *testing.T) {
	const s = `<r><a b="1" d="2" xmlns:p="u" p:a="3" p:c="4"/></r>`
	set := func(space, local, value string) Edit {
		return Edit{Op: Set, At: []int{0, 0}, Name: name(space, local), Text: value}
	}
	lookEdit(t, s, set("", "b", "9"), `<r><a b="9" d="2" xmlns:p="u" p:a="3" p:c="4"/></r>`, set("", "b", "1"))
	lookEdit(t, s, set("", "d", ""), `<r><a b="1" d="" xmlns:p="u" p:a="3" p:c="4"/></r>`, set("", "d", "2"))
	lookEdit(t, s, set("u", "c", "<&"), `<r><a b="1" d="2" xmlns:p="u" p:a="3" p:c="&lt;&amp;"/></r>`, set("u", "c", "4"))
	lookEdit(t, s, set("u", "a", "3"), s, set("u", "a", "3"))
	for _, l := range [][2]string{{"", "a"}, {"", "B"}, {"", "c"}, {"", "e"}, {"t", "z"}, {"u", "B"}, {"u", "b"}, {"u", "d"}, {"uu", "a"}, {"v", "a"}} {
		e, more := set(l[0], l[1], "5"), l[1]+`="5"`
		if l[0] != "" {
			more = `xmlns:q="` + l[0] + `" q:` + more
		}
		lookEdit(t, s, e, `<r><a b="1" d="2" xmlns:p="u" p:a="3" p:c="4" `+more+`/></r>`, Edit{Op: Drop, Name: e.Name})
	}
	drop := func(space, local string) Edit {
		return Edit{Op: Drop, At: []int{0, 0}, Name: name(space, local)}
	}
	lookEdit(t, s, drop("", "b"), `<r><a d="2" xmlns:p="u" p:a="3" p:c="4"/></r>`, set("", "b", "1"))
	lookEdit(t, s, drop("", "d"), `<r><a b="1" xmlns:p="u" p:a="3" p:c="4"/></r>`, set("", "d", "2"))
	lookEdit(t, s, drop("u", "a"), `<r><a b="1" d="2" xmlns:p="u" p:c="4"/></r>`, set("u", "a", "3"))
	lookEdit(t, s, drop("u", "c"), `<r><a b="1" d="2" xmlns:p="u" p:a="3"/></r>`, set("u", "c", "4"))
	lookEdit(t, `<a b="1"/>`, Edit{Op: Drop, At: []int{0}, Name: name("", "b")}, `<a/>`, set("", "b", "1"))
	lookEdit(t, `<a/>`, Edit{Op: Set, At: []int{0}, Name: name(api.SpaceXML, "lang"), Text: "\r\n"}, `<a xml:lang="&#13;&#10;"/>`, drop(api.SpaceXML, "lang"))

	d := said(t, s)
	for _, l := range [][2]string{{"", ""}, {"", "a"}, {"", "c"}, {"", "e"}, {"u", "b"}, {"u", "d"}, {"t", "a"}, {"v", "a"}, {"\xff", "a"}, {"", "xmlns"}, {"u", ""}} {
		lookError(t, d, drop(l[0], l[1]), api.ErrNone)
	}
	for _, l := range [][2]string{{"", ""}, {"", "1"}, {"", "a:b"}, {"", "xmlns"}, {"", strings.Repeat("a", 101)}, {"\xff", "a"}, {api.SpaceXMLNS, "a"}, {strings.Repeat("u", 101), "a"}} {
		lookError(t, d, set(l[0], l[1], "1"), api.ErrName)
		lookError(t, d, set(l[0], l[1], "\x00"), api.ErrName)
	}
	for _, local := range []string{"b", "c"} {
		lookError(t, d, set("", local, "x\x00"), api.ErrChar)
		lookError(t, d, set("", local, "\xff"), api.ErrChar)
	}
	other := said(t, `<a>x<!--y--><?i z?><b/></a>`)
	for kid, want := range []api.Errno{api.ErrKind, api.ErrKind, api.ErrKind, api.OK} {
		e := set("", "k", "1")
		e.At[1] = kid
		if _, f := Apply(other, e); f != want {
			t.Errorf("Set at kid %d: %d", kid, f)
		}
		if want == api.OK {
			want = api.ErrNone
		}
		e.Op = Drop
		lookError(t, other, e, want)
	}
}

func TestP9_1Write(t *testing.T) {
	const s = `<a>x<!--y--><b/><?i z?></a>`
	write := func(text string, at ...int) Edit { return Edit{Op: Write, At: at, Text: text} }
	lookEdit(t, s, write("<&>", 0, 0), `<a>&lt;&amp;&gt;<!--y--><b/><?i z?></a>`, write("x"))
	lookEdit(t, s, write("", 0, 1), `<a>x<!----><b/><?i z?></a>`, write("y"))
	lookEdit(t, s, write("- ", 0, 1), `<a>x<!--- --><b/><?i z?></a>`, write("y"))
	lookEdit(t, s, write("", 0, 3), `<a>x<!--y--><b/><?i?></a>`, write("z"))
	lookEdit(t, s, write("w w", 0, 3), `<a>x<!--y--><b/><?i w w?></a>`, write("z"))
	lookEdit(t, s, write("x", 0, 0), s, write("x"))

	d := said(t, s)
	lookError(t, d, write("w", 0), api.ErrKind)
	lookError(t, d, write("", 0), api.ErrKind)
	lookError(t, d, write("\xff", 0, 2), api.ErrKind)
	lookError(t, d, write("", 0, 0), api.ErrText)
	lookError(t, d, write("--", 0, 1), api.ErrText)
	lookError(t, d, write("\r", 0, 1), api.ErrText)
	lookError(t, d, write("?>", 0, 3), api.ErrText)
	lookError(t, d, write(" z", 0, 3), api.ErrText)
	for kid := range 4 {
		if kid != 2 {
			lookError(t, d, write("\x00", 0, kid), api.ErrChar)
			lookError(t, d, write(strings.Repeat("x", 8193), 0, kid), api.ErrLimit)
			if _, f := Apply(d, write(strings.Repeat("x", 8192), 0, kid)); f != api.OK {
				t.Errorf("a long text: %d", f)
			}
		}
	}
}

// TestP9_1First: of several errors the one that is asked first is told.
func TestP9_1First(t *testing.T) {
	d := said(t, `<a>x<b/></a>`)
	for _, wrong := range []struct {
		d api.Node
		e api.Errno
	}{
		{api.Node{}, api.ErrKind}, {Elem("a"), api.ErrKind}, {Doc(), api.ErrRoot}, {Doc(Elem("a"), Elem("b")), api.ErrRoot}, {Doc(Chain(Elem("a"), 33)), api.ErrDeep}, {Doc(Elem("")), api.ErrName}, {Doc(Elem("a", Text(""))), api.ErrText},
		{Doc(Elem("a", Text("\xff"))), api.ErrChar}, {Doc(With(Elem("a"), "", "b", "", "", "b", "")), api.ErrOrder}, {Doc(Comment(strings.Repeat("x", 9000)), Elem("a")), api.ErrLimit},
	} {
		for op := range 9 {
			for _, at := range [][]int{nil, {0}, {5}, {0, 0}, {0, 0, 0}} {
				lookError(t, wrong.d, Edit{Op: op - 1, At: at}, wrong.e)
				lookError(t, wrong.d, Edit{Op: op - 1, At: at, Name: name("", "b"), Text: "x", Node: Elem("a")}, wrong.e)
			}
		}
	}
	// What would make it right isn't asked.
	lookError(t, Doc(Elem("a"), Elem("b")), Edit{Op: Delete, At: []int{1}}, api.ErrRoot)
	lookError(t, Doc(Elem("a", Text(""))), Edit{Op: Write, At: []int{0, 0}, Text: "x"}, api.ErrText)
	for _, op := range []int{0, -1, 7, 8, math.MaxInt, math.MinInt} {
		for _, at := range [][]int{nil, {0}, {5}, {0, 0}, {0, 1}} {
			lookError(t, d, Edit{Op: op, At: at}, api.ErrArg)
			lookError(t, d, Edit{Op: op, At: at, Name: name("", "b"), Text: "x", Node: Elem("a")}, api.ErrArg)
		}
	}
	lookError(t, d, Edit{Op: Drop, At: []int{0, 0}, Name: name("", "b")}, api.ErrKind)
	lookError(t, d, Edit{Op: Drop, At: []int{0, 1}, Name: name("", "")}, api.ErrNone)
	lookError(t, d, Edit{Op: Set, At: []int{0, 0}, Name: name("", ""), Text: "\xff"}, api.ErrKind)
}

// TestP9_2NotNamed: what an Op doesn't name isn't looked at.
func TestP9_2NotNamed(t *testing.T) {
	d := said(t, `<a k="1">x<b/></a>`)
	odd := Edit{Name: name("\xff", "1"), Text: "\x00--?>", Node: Doc(Text(""), api.Node{Kind: 77})}
	for _, l := range []struct{ e, back Edit }{
		{Edit{Op: Insert, At: []int{0, 0}, Node: Elem("c")}, Edit{Op: Delete, At: []int{0, 0}}},
		{Edit{Op: Delete, At: []int{0, 0}}, Edit{Op: Insert, At: []int{0, 0}, Node: Text("x")}},
		{Edit{Op: Replace, At: []int{0, 1}, Node: Elem("c")}, Edit{Op: Replace, At: []int{0, 1}, Node: Elem("b")}},
		{Edit{Op: Set, At: []int{0}, Name: name("", "k"), Text: "2"}, Edit{Op: Set, At: []int{0}, Name: name("", "k"), Text: "1"}},
		{Edit{Op: Set, At: []int{0}, Name: name("", "m"), Text: "2"}, Edit{Op: Drop, At: []int{0}, Name: name("", "m")}},
		{Edit{Op: Drop, At: []int{0}, Name: name("", "k")}, Edit{Op: Set, At: []int{0}, Name: name("", "k"), Text: "1"}},
		{Edit{Op: Write, At: []int{0, 0}, Text: "y"}, Edit{Op: Write, At: []int{0, 0}, Text: "x"}},
	} {
		want, f := Apply(d, l.e)
		more := l.e
		if l.e.Op != Set && l.e.Op != Drop {
			more.Name = odd.Name
		}
		if l.e.Op != Set && l.e.Op != Write {
			more.Text = odd.Text
		}
		if l.e.Op != Insert && l.e.Op != Replace {
			more.Node = odd.Node
		}
		if got, g := Apply(d, more); f != api.OK || g != api.OK || !tree.Equal(got, want) {
			t.Errorf("%+v: %+v, %d, not %+v, %d", more, got, g, want, f)
		}
		if got, g := Back(d, more); g != api.OK || !same(got, l.back) {
			t.Errorf("Back of %+v: %+v, %d, not %+v", more, got, g, l.back)
		}
	}
}

// roomy is a tree whose lists have spare room, with something in it.
func roomy(n api.Node) api.Node {
	n = tree.Copy(n)
	for i := range n.Kids {
		n.Kids[i] = roomy(n.Kids[i])
	}
	n.Kids = append(n.Kids, Text("spare"), Text("spare"))[:len(n.Kids)]
	n.Attrs = append(n.Attrs, api.Attr{Value: "spare"}, api.Attr{Value: "spare"})[:len(n.Attrs)]
	return n
}

// isRoomy says whether the spare room is as roomy left it.
func isRoomy(n api.Node) bool {
	kids, attrs := n.Kids[len(n.Kids):][:2], n.Attrs[len(n.Attrs):][:2]
	if !slices.EqualFunc(kids, []api.Node{Text("spare"), Text("spare")}, tree.Equal) || attrs[0].Value != "spare" || attrs[1].Value != "spare" {
		return false
	}
	return !slices.ContainsFunc(n.Kids, func(kid api.Node) bool { return !isRoomy(kid) })
}

func TestP9_3Memory(t *testing.T) {
	const s = `<!--z--><a k="1" m="2">x<b n="3"><c/>y</b><d/></a>`
	for _, e := range []Edit{
		{Op: Insert, At: []int{1, 1}, Node: With(Elem("e", Text("w")), "", "k", "1")},
		{Op: Delete, At: []int{1, 1}},
		{Op: Replace, At: []int{1, 1}, Node: With(Elem("e", Text("w")), "", "k", "1")},
		{Op: Set, At: []int{1}, Name: name("", "k"), Text: "4"}, {Op: Set, At: []int{1}, Name: name("", "l"), Text: "4"},
		{Op: Drop, At: []int{1}, Name: name("", "k")},
		{Op: Write, At: []int{1, 0}, Text: "v"},
	} {
		d := roomy(said(t, s))
		room := append(slices.Clone(e.At), 7, 7)
		e.At, e.Node = room[:len(e.At)], roomy(e.Node)
		keep, kept := tree.Copy(d), Edit{e.Op, slices.Clone(e.At), e.Name, e.Text, tree.Copy(e.Node)}
		out, f := Apply(d, e)
		again, g := Apply(d, e)
		back, h := Back(d, e)
		second, i := Back(d, e)
		if f != api.OK || g != api.OK || h != api.OK || i != api.OK {
			t.Fatalf("%+v: %d, %d, %d, %d", e, f, g, h, i)
		}
		want, undo := tree.Copy(out), Edit{back.Op, slices.Clone(back.At), back.Name, back.Text, tree.Copy(back.Node)}
		Spoil(again)
		Spoil(second.Node)
		spoilPath(second.At)
		if !tree.Equal(d, keep) || !same(e, kept) || !isRoomy(d) || !isRoomy(e.Node) || !slices.Equal(room[len(e.At):], []int{7, 7}) {
			t.Errorf("Op %d: what was handed in is another one", e.Op)
		}
		Spoil(d)
		Spoil(e.Node)
		spoilPath(room)
		if !tree.Equal(out, want) || !same(back, undo) {
			t.Errorf("Op %d: what was answered shares memory", e.Op)
		}
		lookLists(t, out)
		lookLists(t, back.Node)
	}
}

func spoilPath(at []int) {
	at = at[:cap(at)]
	for i := range at {
		at[i] = -9
	}
}

// lookLists: no two lists of a tree share memory, spare room too.
func lookLists(t *testing.T, n api.Node) {
	t.Helper()
	kids, attrs := map[*api.Node]int{}, map[*api.Attr]int{}
	for todo := []api.Node{n}; len(todo) > 0; todo = todo[1:] {
		for i := range todo[0].Kids[:cap(todo[0].Kids)] {
			kids[&todo[0].Kids[:cap(todo[0].Kids)][i]]++
		}
		for i := range todo[0].Attrs[:cap(todo[0].Attrs)] {
			attrs[&todo[0].Attrs[:cap(todo[0].Attrs)][i]]++
		}
		todo = append(todo, todo[0].Kids[:cap(todo[0].Kids)]...)
	}
	for _, times := range kids {
		if times > 1 {
			t.Error("two lists of kids share memory")
		}
	}
	for _, times := range attrs {
		if times > 1 {
			t.Error("two lists of attributes share memory")
		}
	}
}

// TestP5Edits: what an edit at a path changes is the node that tree.At tells there; the others stay.
func TestP5Edits(t *testing.T) {
	dice := Dice(7)
	for range 40 {
		d := dice.Document()
		for path, n := range tree.All(d) {
			out, f := Apply(d, Edit{Op: Replace, At: path, Node: In("here", Elem("new"))})
			if n.Kind != api.Element || len(path) == 0 {
				continue
			}
			got, g := tree.At(out, path)
			if f != api.OK || g != api.OK || !tree.Equal(got, In("here", Elem("new"))) {
				t.Fatalf("%v: %+v, %d, %d", path, got, f, g)
			}
			if tree.Size(out) != tree.Size(d)-tree.Size(n)+1 {
				t.Fatalf("%v: %d nodes of %d", path, tree.Size(out), tree.Size(d))
			}
			for other, m := range tree.All(d) {
				below := len(other) >= len(path) && slices.Equal(other[:len(path)], path)
				above := len(other) < len(path) && slices.Equal(path[:len(other)], other)
				if kept, f := tree.At(out, other); !below && !above && (f != api.OK || !tree.Equal(kept, m)) {
					t.Fatalf("%v behind an edit at %v: %+v, %d", other, path, kept, f)
				}
			}
		}
	}
}

// TestP1Deep: what is handed in may be deeper than calls within calls could go.
func TestP1Deep(t *testing.T) {
	defer debug.SetMaxStack(debug.SetMaxStack(1 << 20))
	const deep = 200000
	chain := Chain(Elem("b"), deep)
	for op := range 9 {
		lookError(t, Doc(chain), Edit{Op: op - 1, At: make([]int, deep), Node: chain}, api.ErrDeep)
	}
	d := Doc(Elem("a", Text("x"), Elem("b")))
	for _, op := range []int{Insert, Replace} {
		if _, f := Apply(d, Edit{Op: op, At: []int{0, 1}, Node: chain}); f != api.ErrDeep {
			t.Errorf("Op %d: %d", op, f)
		}
		if _, f := Apply(d, Edit{Op: op, At: make([]int, deep), Node: chain}); f != api.ErrPath {
			t.Errorf("Op %d: %d", op, f)
		}
	}
	if _, f := Apply(d, Edit{Op: Delete, At: []int{0, 1}, Node: chain}); f != api.OK {
		t.Errorf("Delete: %d", f)
	}
}
