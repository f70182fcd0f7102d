package trail

import (
	"cmp"
	"math"
	"runtime/debug"
	"slices"
	"strings"
	"testing"

	"lectern/api"
	. "lectern/sample"
	"lectern/tree"
)

func same(a, b Trail) bool {
	return slices.Equal(a.Steps, b.Steps) && a.Attr == b.Attr && a.Name == b.Name
}

func node(steps ...int) Trail { return Trail{Steps: steps} }

func attr(space, local string, steps ...int) Trail {
	return Trail{steps, true, api.Name{URI: space, Local: local}}
}

func lookText(t *testing.T, a Trail, s string) {
	t.Helper()
	if got, e := Show(a); got != s || e != api.OK {
		t.Errorf("Show(%+v): %q, %d, not %q", a, got, e, s)
	}
	if got, e := Read(s); !same(got, a) || e != api.OK {
		t.Errorf("Read(%q): %+v, %d", s, got, e)
	}
}

func TestExamples(t *testing.T) {
	lookText(t, attr("u", "b", 1, 0), "/1/0/@b{u}")
	lookText(t, Trail{}, "/")
	for _, s := range []string{"/01", "1", "/1/", "", "/@1", "/@a{}"} {
		lookNone(t, s)
	}
	lookRows(t, []Trail{node(0), attr("", "a", 0), node(0, 0), node(1), node(10)})
	if !Under(node(0), attr("", "a", 0)) {
		t.Error("/0/@a isn't under /0")
	}
	if up, ok := Up(attr("", "a", 0)); !ok || !same(up, node(0)) {
		t.Errorf("Up(/0/@a): %+v, %v", up, ok)
	}
}

func TestP8_1Texts(t *testing.T) {
	lookText(t, node(0), "/0")
	lookText(t, node(0, 10, 999999999), "/0/10/999999999")
	lookText(t, node(make([]int, 64)...), strings.Repeat("/0", 64))
	lookText(t, attr("", "a", make([]int, 64)...), strings.Repeat("/0", 64)+"/@a")
	lookText(t, attr("", "a"), "/@a")
	lookText(t, attr("", "é-1.x", 3), "/3/@é-1.x")
	lookText(t, attr("", "xmlns", 3), "/3/@xmlns")
	for _, space := range []string{"u", "}", "{", "{}", "}{", "/", "/@b{v}", "/0/@", " ", "\r\n\t", "é", api.SpaceXML, api.SpaceXMLNS, strings.Repeat("u", 100), strings.Repeat("é", 50)} {
		lookText(t, attr(space, "a"), "/@a{"+space+"}")
		lookText(t, attr(space, strings.Repeat("a", 100), 12, 0), "/12/0/@"+strings.Repeat("a", 100)+"{"+space+"}")
	}
}

func lookWrong(t *testing.T, a Trail) {
	t.Helper()
	if got, e := Show(a); got != "" || e != api.ErrPath {
		t.Errorf("Show(%+v): %q, %d", a, got, e)
	}
}

func TestP8_1WrongTrails(t *testing.T) {
	for _, step := range []int{-1, 1000000000, math.MaxInt, math.MinInt} {
		lookWrong(t, node(step))
		lookWrong(t, node(0, step))
		lookWrong(t, node(step, 0))
		lookWrong(t, attr("", "a", 0, step, 0))
	}
	lookWrong(t, node(make([]int, 65)...))
	lookWrong(t, attr("u", "a", make([]int, 65)...))
	lookWrong(t, Trail{Name: api.Name{Local: "a"}})
	lookWrong(t, Trail{Name: api.Name{URI: "u"}, Steps: []int{0}})
	for _, local := range []string{"", "1", "a:b", "a b", "-", "a{", "a{u}", "a/", "@a", "\xff", strings.Repeat("a", 101), strings.Repeat("é", 51)} {
		lookWrong(t, attr("", local))
		lookWrong(t, attr("u", local, 0))
	}
	for _, space := range []string{"\x00", "u\xff", "\ufffe", "u\xed\xa0\x80", strings.Repeat("u", 101), strings.Repeat("é", 50) + "u"} {
		lookWrong(t, attr(space, "a"))
		lookWrong(t, attr(space, "a", 0))
	}
}

func lookNone(t *testing.T, s string) {
	t.Helper()
	if got, e := Read(s); !same(got, Trail{}) || e != api.ErrPath {
		t.Errorf("Read(%q): %+v, %d", s, got, e)
	}
}

func TestP8_1WrongTexts(t *testing.T) {
	for _, s := range []string{
		"0", "0/0", "//", "//0", "/0//0", "/0/", "///", " /", "/ ", "/0 ", " /0", "/0\n", "\n",
		"/00", "/01/0", "/0/007", "/-0", "/-1", "/+1", "/+0", "/1.0", "/1e1", "/1_0", "/0x1", "/٣", "/a", "/\xff",
		"/1000000000", "/0999999999", "/10000000000", "/9223372036854775807", "/9223372036854775808", "/18446744073709551616", "/" + strings.Repeat("9", 100),
		strings.Repeat("/0", 65), strings.Repeat("/0", 65) + "/@a", strings.Repeat("/0", 5000),
		"@a", "/@", "//@a", "/0//@a", "0/@a", "x/@a", "/0@a", "/0/@", "/@ a", "/@a ", "/@a/", "/@a/0", "/@a/@b", "/@@a", "/@a:b", "/@-", "/@*", "/@\xff",
		"/@{u}", "/@a{", "/@a}", "/@a{u", "/@au}", "/@a{u}b", "/@a{u} ", "/@a{u}/", "/@a{u}/0", "/@a{u}/@b", "/@1{u}", "/@a{\xff}", "/@a{\x00}",
		"/@" + strings.Repeat("a", 101), "/@a{" + strings.Repeat("u", 101) + "}", "/@a{" + strings.Repeat("é", 51) + "}",
	} {
		lookNone(t, s)
	}
}

// lookRows looks whether trails stand as Compare says.
func lookRows(t *testing.T, rows []Trail) {
	t.Helper()
	for i, a := range rows {
		for k, b := range rows {
			if got := Compare(a, b); got != cmp.Compare(i, k) {
				t.Errorf("Compare(%+v, %+v): %d", a, b, got)
			}
		}
	}
}

func TestP8_2Order(t *testing.T) {
	lookRows(t, []Trail{
		{}, attr("", ""), attr("", "B"), attr("", "a"), attr("", "aa"), attr("", "b"), attr("", "é"), attr("\x00", "a"), attr("U", "z"), attr("u", "a"), attr("ua", ""),
		node(math.MinInt), node(-10), node(-1), node(0), attr("", "a", 0), attr("u", "", 0), node(0, -1), node(0, 0), node(0, 0, 0), attr("", "a", 0, 0, 0), node(0, 1), node(0, 10), node(0, 9223372036854775807),
		node(1), attr("", "a", 1), node(2), node(9), node(10), attr("", "a", 10), node(10, 0), node(11), node(100), node(math.MaxInt), node(append([]int{math.MaxInt}, make([]int, 100)...)...),
	})
}

// TestP8_2NoName: the name of what is no attribute doesn't matter.
func TestP8_2NoName(t *testing.T) {
	for _, steps := range [][]int{nil, {0}, {0, 1}} {
		a, b := Trail{Steps: steps, Name: api.Name{URI: "v", Local: "b"}}, Trail{Steps: steps, Name: api.Name{URI: "u", Local: "c"}}
		if Compare(a, b) != 0 || Compare(b, a) != 0 || Compare(a, node(steps...)) != 0 || !Under(a, b) || !Under(b, a) {
			t.Errorf("%+v and %+v differ", a, b)
		}
		c := attr("", "a", steps...)
		if Compare(a, c) != -1 || Compare(c, a) != 1 || !Under(a, c) || Under(c, a) {
			t.Errorf("%+v doesn't stand under %+v", c, a)
		}
		if up, ok := Up(a); ok != (len(steps) > 0) || up.Name != (api.Name{}) {
			t.Errorf("Up(%+v): %+v, %v", a, up, ok)
		}
	}
}

func TestP8_2Under(t *testing.T) {
	for _, l := range []struct {
		a, b Trail
		want bool
	}{
		{node(), node(), true}, {node(), node(-5), true}, {node(), attr("", "a"), true}, {node(), attr("u", "a", 3, 1), true},
		{node(1), node(1), true}, {node(1), node(1, 0), true}, {node(1), node(1, 0, 7), true}, {node(1), node(10), false}, {node(1), node(), false}, {node(1), node(0, 1), false}, {node(1, 0), node(1), false}, {node(1, 0), node(1, 1), false}, {node(1, 0), node(0, 0), false},
		{node(1), attr("", "a", 1), true}, {node(1), attr("", "a", 1, 0), true}, {node(1), attr("", "a", 0), false}, {node(1), attr("", "a"), false},
		{attr("", "a", 1), attr("", "a", 1), true}, {attr("", "a", 1), attr("", "b", 1), false}, {attr("", "a", 1), attr("u", "a", 1), false}, {attr("", "a", 1), node(1), false}, {attr("", "a", 1), node(1, 0), false}, {attr("", "a", 1), attr("", "a", 1, 0), false},
		{attr("", ""), node(0), false}, {attr("", ""), node(), false},
	} {
		if got := Under(l.a, l.b); got != l.want {
			t.Errorf("Under(%+v, %+v): %v", l.a, l.b, got)
		}
	}
}

func TestP8_2Up(t *testing.T) {
	for _, l := range []struct {
		a, up Trail
		ok    bool
	}{
		{node(), node(), false}, {node(0), node(), true}, {node(5, 7), node(5), true}, {node(-1, 2, 3), node(-1, 2), true},
		{attr("u", "a", 5, 7), node(5, 7), true}, {attr("", "", 0), node(0), true}, {attr("u", "a"), node(), true},
	} {
		if up, ok := Up(l.a); ok != l.ok || !same(up, l.up) {
			t.Errorf("Up(%+v): %+v, %v", l.a, up, ok)
		}
	}
}

func lookValue(t *testing.T, d api.Node, a Trail, s string, f api.Errno) {
	t.Helper()
	if got, e := Value(d, a); got != s || e != f {
		t.Errorf("Value(%+v): %q, %d, not %q, %d", a, got, e, s, f)
	}
}

func TestP8_3Values(t *testing.T) {
	c := With(Elem("c", Text("z")), "", "a", "2")
	a := With(Elem("a", Text("x"), Comment("k"), Elem("b", Text("y"), Instr("i", "w"), c), Text("!"), Elem("b")), "", "a", "1", "", "e", "", "u", "a", "3")
	d := Doc(Comment("q"), a, Instr("i", ""))
	for _, l := range []struct {
		a Trail
		s string
		e api.Errno
	}{
		{node(), "xyz!", 0}, {node(1), "xyz!", 0}, {node(1, 2), "yz", 0}, {node(1, 4), "", 0}, {node(1, 0), "x", 0}, {node(1, 1), "k", 0}, {node(1, 2, 1), "w", 0}, {node(0), "q", 0}, {node(2), "", 0}, {node(1, 2, 2, 0), "z", 0},
		{attr("", "a", 1), "1", 0}, {attr("", "e", 1), "", 0}, {attr("u", "a", 1), "3", 0}, {attr("", "a", 1, 2, 2), "2", 0},
		{attr("", "b", 1), "", api.ErrNone}, {attr("u", "e", 1), "", api.ErrNone}, {attr("", "", 1), "", api.ErrNone}, {attr("", "a", 1, 2), "", api.ErrNone}, {attr("", "a"), "", api.ErrNone}, {attr("", "a", 1, 0), "", api.ErrNone}, {attr("", "i", 2), "", api.ErrNone},
		{node(3), "", api.ErrPath}, {node(-1), "", api.ErrPath}, {node(1, 5), "", api.ErrPath}, {node(1, 0, 0), "", api.ErrPath}, {node(math.MaxInt), "", api.ErrPath}, {node(math.MinInt, 0), "", api.ErrPath},
		{attr("", "a", 3), "", api.ErrPath}, {attr("", "a", 1, 5), "", api.ErrPath}, {attr("", "a", -1), "", api.ErrPath}, {attr("", "", 1, 0, 0), "", api.ErrPath},
		{Trail{Steps: []int{1}, Name: api.Name{Local: "a"}}, "xyz!", 0},
	} {
		lookValue(t, d, l.a, l.s, l.e)
	}
}

// TestP8_3AnyTree: trees that are no documents.
func TestP8_3AnyTree(t *testing.T) {
	lookValue(t, api.Node{}, node(), "", api.OK)
	lookValue(t, api.Node{}, attr("", "a"), "", api.ErrNone)
	lookValue(t, api.Node{Kind: 9, Text: "t", Kids: []api.Node{Text("x"), {Kind: -1, Text: "u", Kids: []api.Node{Text("y")}}, Text("z")}}, node(), "xyz", api.OK)
	top := Text("x")
	top.Kids = []api.Node{Text("y")}
	lookValue(t, top, node(), "x", api.OK)
	lookValue(t, Elem("a", Text("w"), top, Text("z")), node(), "wxyz", api.OK)
	lookValue(t, With(Elem("a"), "", "b", "1", "", "a", "2", "", "a", "3"), attr("", "a"), "2", api.OK)
	lookValue(t, With(Text("x"), "", "a", "2"), attr("", "a"), "", api.ErrNone)
	lookValue(t, With(Doc(), "", "a", "2"), attr("", "a"), "", api.ErrNone)
	long := Elem("a", Text("\xff\x00"), Text(strings.Repeat("x", 9000)), Text(""))
	lookValue(t, long, node(), "\xff\x00"+strings.Repeat("x", 9000), api.OK)
}

// TestP5Trails: the trails of a document's nodes and attributes, and their paths, mean the same, and stand in the order in which it is written.
func TestP5Trails(t *testing.T) {
	dice := Dice(5)
	for range 300 {
		d := dice.Document()
		var rows []Trail
		for path, n := range tree.All(d) {
			rows = append(rows, node(path...))
			for _, a := range n.Attrs {
				rows = append(rows, Trail{path, true, a.Name})
			}
		}
		for i, a := range rows {
			s, e := Show(a)
			read, f := Read(s)
			if e != api.OK || f != api.OK || !same(read, a) {
				t.Fatalf("%+v: %q, %d, %+v, %d", a, s, e, read, f)
			}
			n, e := tree.At(d, read.Steps)
			if e != api.OK {
				t.Fatalf("no node at %q: %d", s, e)
			}
			lookMeant(t, d, n, read)
			if i > 0 && Compare(rows[i-1], a) != -1 {
				t.Fatalf("%+v doesn't stand ahead of %+v", rows[i-1], a)
			}
			lookUp(t, rows[:i], a)
		}
	}
}

// lookMeant holds what a trail means against the node of d that is there.
func lookMeant(t *testing.T, d, n api.Node, a Trail) {
	t.Helper()
	s, e := Value(d, a)
	want := texts(n)
	switch {
	case a.Attr:
		want = n.Attrs[slices.IndexFunc(n.Attrs, func(b api.Attr) bool { return b.Name == a.Name })].Value
	case n.Kind != api.Document && n.Kind != api.Element:
		want = n.Text
	}
	if s != want || e != api.OK {
		t.Fatalf("Value(%+v): %q, %d, not %q", a, s, e, want)
	}
}

// lookUp: what a stands in is one of those ahead of it, and what stands between both stands in it, too.
func lookUp(t *testing.T, ahead []Trail, a Trail) {
	t.Helper()
	up, ok := Up(a)
	at := slices.IndexFunc(ahead, func(b Trail) bool { return same(b, up) })
	if ok != (len(ahead) > 0) || ok && at < 0 {
		t.Fatalf("Up(%+v): %+v, %v", a, up, ok)
	}
	for i, b := range ahead {
		if ok && Under(up, b) != (i >= at) {
			t.Fatalf("Under(%+v, %+v): %v", up, b, Under(up, b))
		}
	}
}

func TestP8_4Memory(t *testing.T) {
	room := []int{1, 2, 3, 4, 5}
	a := Trail{Steps: room[:3], Name: api.Name{Local: "a"}, Attr: true}
	b := Trail{Steps: room[:3]}
	up, _ := Up(a)
	other, _ := Up(b)
	third, _ := Up(b)
	for _, l := range [][]int{up.Steps, other.Steps, third.Steps} {
		for i := range l[:cap(l)] {
			l[:cap(l)][i] = -7
		}
		if !slices.Equal(room, []int{1, 2, 3, 4, 5}) {
			t.Fatalf("the steps that were handed in: %v", room)
		}
	}
	up, _ = Up(a)
	other, _ = Up(b)
	read, _ := Read("/1/2")
	Show(a)
	Compare(a, b)
	Under(b, a)
	for i := range room {
		room[i] = 9
	}
	if !same(up, node(1, 2, 3)) || !same(other, node(1, 2)) || !same(read, node(1, 2)) {
		t.Errorf("%+v, %+v, %+v", up, other, read)
	}
	d := Doc(With(Elem("a", Text("x")), "", "a", "1"))
	keep := tree.Copy(d)
	s, _ := Value(d, node())
	v, _ := Value(d, attr("", "a", 0))
	if !tree.Equal(d, keep) {
		t.Error("the document is another one")
	}
	Spoil(d)
	if s != "x" || v != "1" {
		t.Errorf("%q, %q", s, v)
	}
}

// TestP1Deep: trees and trails may be longer than calls within calls could go.
func TestP1Deep(t *testing.T) {
	defer debug.SetMaxStack(debug.SetMaxStack(1 << 20))
	const deep = 200000
	d := Doc(Chain(Text("x"), deep))
	lookValue(t, d, node(), "x", api.OK)
	long := make([]int, deep+1)
	lookValue(t, d, node(long...), "x", api.OK)
	lookValue(t, d, attr("", "a", long[:deep]...), "", api.ErrNone)
	lookValue(t, d, node(append(long, 0)...), "", api.ErrPath)
	lookWrong(t, node(long...))
	if Compare(node(long...), node(long[1:]...)) != 1 || !Under(node(long[1:]...), node(long...)) || Under(node(long...), node(long[1:]...)) {
		t.Error("long trails stand otherwise")
	}
	if up, ok := Up(node(long...)); !ok || len(up.Steps) != deep {
		t.Errorf("Up: %d steps, %v", len(up.Steps), ok)
	}
	lookNone(t, strings.Repeat("/0", deep))
	lookNone(t, strings.Repeat("/", deep))
	lookNone(t, "/@a{"+strings.Repeat("}", deep))
	lookNone(t, strings.Repeat("/@", deep))
}
