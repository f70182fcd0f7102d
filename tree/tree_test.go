package tree

import (
	"reflect"
	"slices"
	"strings"
	"testing"

	"lectern/api"
	"lectern/sample"
)

var (
	doc, elem, text, comment, instr = sample.Doc, sample.Elem, sample.Text, sample.Comment, sample.Instr
	within, with, chain             = sample.In, sample.With, sample.Chain
)

// rich is a right document in which there is something of all.
func rich() api.Node {
	return doc(
		instr("i", "x y"),
		comment(" c "),
		within("u", with(elem("a",
			text("x"),
			elem("c", comment(""), text("y"), instr("j", ""), text(" ")),
			text("z"),
			within("v", with(elem("b"), "", "b", "1", "", "c", "", "v", "a", "2")),
		), "", "b", "1", api.SpaceXML, "lang", "de", "w", "b", "3")),
		comment("e"),
	)
}

func example() api.Node {
	return doc(within("u", with(elem("a", text("x"), elem("c")), "", "b", "1")))
}

func lookCheck(t *testing.T, what string, d api.Node, want api.Errno) {
	t.Helper()
	before := Copy(d)
	if e := Check(d); e != want {
		t.Errorf("Check of %.200s: %d, not %d", what, e, want)
	}
	if !Equal(d, before) {
		t.Errorf("Check of %.200s changes it", what)
	}
}

func TestExample(t *testing.T) {
	d := example()
	lookCheck(t, "the example", d, api.OK)
	if Size(d) != 4 || Depth(d) != 3 || !slices.Equal(Spaces(d), []string{"u"}) {
		t.Errorf("Size %d, Depth %d, Spaces %q", Size(d), Depth(d), Spaces(d))
	}
	d.Kids[0].Kids = []api.Node{text("x"), text("y"), elem("c")}
	lookCheck(t, "two texts", d, api.ErrText)
	lookCheck(t, "b twice", doc(with(elem("a"), "", "b", "1", "", "b", "2")), api.ErrOrder)
	lookCheck(t, "two elements", doc(elem("a"), elem("a")), api.ErrRoot)
}

func TestP5_2Equal(t *testing.T) {
	others := []api.Node{
		{}, doc(), elem("a"), elem("b"), within("u", elem("a")), within("a", elem("")), text(""), text("a"), text("b"), comment("a"), instr("a", ""), instr("a", "a"), {Kind: 99}, {Kind: -1},
		with(elem("a"), "", "b", "1"), with(elem("a"), "", "b", "2"), with(elem("a"), "u", "b", "1"), with(elem("a"), "", "c", "1"), with(elem("a"), "", "b", "1", "", "c", "1"), with(elem("a"), "", "c", "1", "", "b", "1"),
		elem("a", elem("b")), elem("a", elem("b"), elem("b")), elem("a", elem("b", elem("b"))), elem("a", text("x"), elem("b")), elem("a", elem("b"), text("x")), elem("a", elem("b", text("x"))), elem("a", elem("b", text("y"))),
		rich(), example(),
	}
	for i, a := range others {
		for j, b := range others {
			if Equal(a, b) != (i == j) {
				t.Errorf("Equal(%+v, %+v) = %t", a, b, i != j)
			}
			if Equal(elem("r", text("x"), a), elem("r", text("x"), b)) != (i == j) {
				t.Errorf("Equal of kids %+v, %+v = %t", a, b, i != j)
			}
		}
		if !Equal(a, Copy(a)) {
			t.Errorf("%+v isn't its Copy", a)
		}
	}
}

// TestP5_2EqualEmpty: nil and empty lists are alike.
func TestP5_2EqualEmpty(t *testing.T) {
	a, b := elem("a", elem("b")), elem("a", elem("b"))
	b.Attrs, b.Kids[0].Attrs, b.Kids[0].Kids = []api.Attr{}, []api.Attr{}, []api.Node{}
	if !Equal(a, b) || !Equal(b, a) || !Equal(b, Copy(b)) || !Equal(a, Copy(b)) {
		t.Error("empty lists are held for others than nil")
	}
	if Check(doc(a)) != api.OK || Check(doc(b)) != api.OK {
		t.Error("empty lists are wrong")
	}
}

func TestP5_2Copy(t *testing.T) {
	for _, n := range []api.Node{{}, doc(), rich(), example(), with(text("x"), "u", "b", "1"), {Kind: 99, Name: api.Name{URI: "u"}, Text: "x", Kids: []api.Node{rich(), {}}}} {
		first := Copy(n)
		if !reflect.DeepEqual(first, n) {
			t.Errorf("Copy(%+v) = %+v", n, first)
		}
		second := Copy(n)
		sample.Spoil(first)
		if !reflect.DeepEqual(second, n) {
			t.Errorf("a copy of %+v shares memory", n)
		}
		third := Copy(second)
		sample.Spoil(n)
		if !reflect.DeepEqual(second, third) {
			t.Errorf("a copy shares memory with what was handed in: %+v", second)
		}
	}
}

// TestP5_2CopyRoom: what stands in the spare room of lists isn't copied.
func TestP5_2CopyRoom(t *testing.T) {
	room := []api.Node{elem("b"), elem("c"), elem("d")}
	marks := []api.Attr{{Value: "1"}, {Value: "2"}, {Value: "3"}}
	n := api.Node{Kind: api.Element, Kids: room[:1], Attrs: marks[:1]}
	c := Copy(n)
	c.Kids = append(c.Kids, text("x"))
	c.Attrs = append(c.Attrs, api.Attr{Value: "x"})
	if room[1].Name.Local != "c" || marks[1].Value != "2" || !Equal(n, api.Node{Kind: api.Element, Kids: []api.Node{elem("b")}, Attrs: []api.Attr{{Value: "1"}}}) {
		t.Errorf("%+v, %+v", room, marks)
	}
	if Size(n) != 2 || Depth(n) != 2 {
		t.Errorf("Size %d, Depth %d", Size(n), Depth(n))
	}
}

func TestP5_2SizeDepth(t *testing.T) {
	for _, c := range []struct {
		n           api.Node
		size, depth int
	}{
		{api.Node{}, 1, 1},
		{doc(), 1, 1},
		{text("x"), 1, 1},
		{doc(elem("a")), 2, 2},
		{elem("a", text("x"), text("y")), 3, 2},
		{example(), 4, 3},
		{rich(), 13, 4},
		{elem("a", elem("b", elem("c")), elem("d")), 4, 3},
		{elem("a", elem("d"), elem("b", elem("c"))), 4, 3},
		{chain(text("x"), 40), 41, 41},
		{api.Node{Kind: api.Text, Kids: []api.Node{{Kids: []api.Node{{}}}}}, 3, 3},
		{doc(doc(doc(), doc())), 4, 3},
	} {
		if Size(c.n) != c.size || Depth(c.n) != c.depth {
			t.Errorf("%+v: Size %d, Depth %d, not %d, %d", c.n, Size(c.n), Depth(c.n), c.size, c.depth)
		}
	}
}

func TestP5_2Order(t *testing.T) {
	rising := []api.Name{
		{}, {Local: "\x00"}, {Local: "B"}, {Local: "a"}, {Local: "a\x00"}, {Local: "aa"}, {Local: "b"}, {Local: "é"}, {Local: "\uffee"}, {Local: "\U0001f600"}, {Local: "\xff"},
		{URI: "U", Local: "z"}, {URI: "u"}, {URI: "u", Local: "a"}, {URI: "u", Local: "b"}, {URI: "u/", Local: ""}, {URI: "uu", Local: "A"}, {URI: "v", Local: "A"}, {URI: "\xff", Local: ""},
	}
	for i, a := range rising {
		for j, b := range rising {
			want := 0
			if i < j {
				want = -1
			} else if i > j {
				want = 1
			}
			if Order(a, b) != want {
				t.Errorf("Order(%q, %q) = %d", a, b, Order(a, b))
			}
		}
	}
}

func TestP5_2Spaces(t *testing.T) {
	strange := with(within("t", text("x")), "s", "b", "1")
	strange.Kids = []api.Node{within("r", comment("")), within("U", instr("i", "")), within("\xff", api.Node{})}
	for _, c := range []struct {
		n    api.Node
		want []string
	}{
		{api.Node{}, nil},
		{doc(elem("a", text("x"))), nil},
		{example(), []string{"u"}},
		{rich(), []string{api.SpaceXML, "u", "v", "w"}},
		{within("u", elem("a", within("u", elem("b")), with(elem("c"), "u", "d", "1"))), []string{"u"}},
		{within("z", elem("a", within("é", elem("b")), with(elem("c"), "B", "d", "1", "aa", "d", "1", "a", "d", "1"))), []string{"B", "a", "aa", "z", "é"}},
		{strange, []string{"U", "r", "s", "t", "\xff"}},
		{within(api.SpaceXMLNS, elem("a")), []string{api.SpaceXMLNS}},
	} {
		got := Spaces(c.n)
		if !slices.Equal(got, c.want) {
			t.Errorf("Spaces(%+v) = %q, not %q", c.n, got, c.want)
		}
		for i := range got[:cap(got)] {
			got[:cap(got)][i] = "spoilt"
		}
		if again := Spaces(c.n); !slices.Equal(again, c.want) {
			t.Errorf("Spaces(%+v) = %q the second time", c.n, again)
		}
	}
}

func TestP5_3At(t *testing.T) {
	d := rich()
	for _, c := range []struct {
		path []int
		want api.Node
	}{
		{nil, d}, {[]int{}, d}, {[]int{0}, instr("i", "x y")}, {[]int{3}, comment("e")}, {[]int{2}, d.Kids[2]}, {[]int{2, 1}, d.Kids[2].Kids[1]}, {[]int{2, 1, 3}, text(" ")}, {[]int{2, 3}, d.Kids[2].Kids[3]},
	} {
		n, e := At(d, c.path)
		if !reflect.DeepEqual(n, c.want) || e != api.OK {
			t.Errorf("At(%d) = %+v, %d, not %+v", c.path, n, e, c.want)
		}
		sample.Spoil(n)
		if !Equal(d, rich()) {
			t.Fatalf("At(%d) answers what was handed in", c.path)
		}
	}
	for _, path := range [][]int{{-1}, {4}, {0, 0}, {2, 4}, {2, -1}, {2, 1, 4}, {2, 1, 3, 0}, {2, 1, -1, 0}, {4, 0}, {-1 << 63}, {1<<63 - 1}, {2, 1 << 32}, {2 - 1<<32}} {
		if n, e := At(d, path); !reflect.DeepEqual(n, api.Node{}) || e != api.ErrPath {
			t.Errorf("At(%d) = %+v, %d", path, n, e)
		}
	}
	if n, e := At(api.Node{}, []int{0}); !reflect.DeepEqual(n, api.Node{}) || e != api.ErrPath {
		t.Errorf("At of nothing = %+v, %d", n, e)
	}
	path := []int{2, 1, 3}
	At(d, path)
	if !slices.Equal(path, []int{2, 1, 3}) {
		t.Errorf("At makes %d of a path", path)
	}
}

// TestP5_3AtRoom: what stands in the spare room of kids is no kid.
func TestP5_3AtRoom(t *testing.T) {
	room := []api.Node{elem("a"), elem("b")}
	if _, e := At(doc(room[:1]...), []int{1}); e != api.ErrPath {
		t.Errorf("At of the spare room: %d", e)
	}
}

type visit struct {
	path []int
	node api.Node
}

// visits is what All is to go through.
func visits(n api.Node, path ...int) []visit {
	l := []visit{{slices.Clone(path), n}}
	for i, kid := range n.Kids {
		l = append(l, visits(kid, append(slices.Clone(path), i)...)...)
	}
	return l
}

func lookAll(t *testing.T, n api.Node) {
	t.Helper()
	want, i := visits(n), 0
	for path, node := range All(n) {
		if i == len(want) || !slices.Equal(path, want[i].path) || !Equal(node, want[i].node) {
			t.Fatalf("All(%+v): %d: %d, %+v", n, i, path, node)
		}
		i++
	}
	if i != len(want) {
		t.Errorf("All(%+v): %d nodes, not %d", n, i, len(want))
	}
}

func TestP5_3All(t *testing.T) {
	deep := chain(text("x"), 40)
	deep.Kids = append(deep.Kids, chain(elem("b", text("y"), elem("c")), 5), text("z"))
	for _, n := range []api.Node{{}, doc(), rich(), example(), deep, elem("a", text("x"), elem("b", elem("c"), elem("d", elem("e"))), text("y"))} {
		lookAll(t, n)
	}
}

func TestP5_3AllStops(t *testing.T) {
	want := visits(rich())
	for stop := range want {
		i := 0
		for path := range All(rich()) {
			if !slices.Equal(path, want[i].path) {
				t.Fatalf("All up to %d: %d", stop, path)
			}
			if i == stop {
				break
			}
			i++
		}
		if i != stop {
			t.Errorf("All up to %d stops at %d", stop, i)
		}
	}
}

// TestP5_3AllMemory: what is told is its reader's, and what becomes of what was handed in doesn't matter.
func TestP5_3AllMemory(t *testing.T) {
	want, d := visits(rich()), rich()
	all := All(d)
	var told []visit
	for path, n := range all {
		told = append(told, visit{path, n})
		again := slices.Clone(told)
		for i := range again {
			if !slices.Equal(again[i].path, want[i].path) || !Equal(again[i].node, want[i].node) {
				t.Fatalf("%d is %+v behind %d more", i, again[i], len(again)-i)
			}
		}
	}
	for i := range told {
		sample.Spoil(told[i].node)
		_ = append(told[i].path, 77, 77)
		for k := range told[i].path {
			told[i].path[k] = 99
		}
		for k := i + 1; k < len(told); k++ {
			if !slices.Equal(told[k].path, want[k].path) || !Equal(told[k].node, want[k].node) {
				t.Fatalf("%d and %d share memory", i, k)
			}
		}
	}
	if !Equal(d, rich()) {
		t.Error("All tells what was handed in")
	}
	sample.Spoil(d)
	i := 0
	for path, n := range all {
		if !slices.Equal(path, want[i].path) || !Equal(n, want[i].node) {
			t.Fatalf("All keeps what was handed in: %d, %+v", path, n)
		}
		sample.Spoil(n)
		for k := range path {
			path[k] = 5
		}
		i++
	}
	if i != len(want) {
		t.Errorf("All goes through %d nodes the second time", i)
	}
}

// TestP5_3AllTwice: one that is gone through within itself.
func TestP5_3AllTwice(t *testing.T) {
	all, n := All(example()), 0
	for a := range all {
		for b := range all {
			if slices.Equal(a, b) {
				n++
			}
		}
	}
	if n != 4 {
		t.Errorf("%d of 4", n)
	}
}

// without is n without its comments and instructions.
func without(n api.Node) api.Node {
	out := n
	out.Kids = nil
	for _, kid := range n.Kids {
		if kid.Kind != api.Comment && kid.Kind != api.Instr {
			out.Kids = append(out.Kids, without(kid))
		}
	}
	return out
}

func TestP5_4(t *testing.T) {
	d := doc(comment("c"), instr("i", ""), elem("a", comment("d"), text("x"), instr("j", "k"), elem("b", instr("l", ""), text("y")), comment("e"), text("z")))
	lookCheck(t, "a document", d, api.OK)
	lookCheck(t, "a document without comments", without(d), api.OK)
	lookCheck(t, "the rich document, texts side by side", without(rich()), api.ErrText)
	if s := strings.Repeat("x", 8192); Check(without(doc(comment(s), elem("a", text(s), comment(s))))) != api.OK {
		t.Error("long texts")
	}
}
