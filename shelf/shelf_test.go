package shelf

import (
	"maps"
	"math"
	"slices"
	"strings"
	"testing"

	"lectern/api"
	"lectern/edit"
	"lectern/hedge"
	"lectern/label"
	. "lectern/rig"
	. "lectern/sample"
	"lectern/tree"
	"lectern/vault"
)

// lookRefused looks that all calls that are told a number answer an error, and zero values beside it.
func lookRefused(t *testing.T, s *Shelf, doc int, want api.Errno) {
	t.Helper()
	Look(t, "Put", s.Put(doc, Doc(Elem("a"))), want)
	lookUnread(t, s, doc, want)
	lookNoDrop(t, s, doc, want)
	Look(t, "Edit", s.Edit(doc, edit.Edit{Op: edit.Write, At: []int{0, 0}, Text: "w"}), want)
}

// lookUnread looks that a document can't be read.
func lookUnread(t *testing.T, s *Shelf, doc int, want api.Errno) {
	t.Helper()
	if d, ok, e := s.Get(doc); ok || e != want || !tree.Equal(d, api.Node{}) {
		t.Fatalf("Get(%d): %s, %v, %d, not %d", doc, brief(d), ok, e, want)
	}
	if l, e := s.Labels(doc); len(l) != 0 || e != want {
		t.Fatalf("Labels(%d): %v, %d, not %d", doc, l, e, want)
	}
}

func lookNoDrop(t *testing.T, s *Shelf, doc int, want api.Errno) {
	t.Helper()
	if ok, e := s.Drop(doc); ok || e != want {
		t.Fatalf("Drop(%d): %v, %d, not %d", doc, ok, e, want)
	}
}

// lookNoLists looks that Docs and Pages answer an error.
func lookNoLists(t *testing.T, s *Shelf, want api.Errno) {
	t.Helper()
	if l, e := s.Docs(); len(l) != 0 || e != want {
		t.Fatalf("Docs: %v, %d, not %d", l, e, want)
	}
	if l, e := s.Pages(); len(l) != 0 || e != want {
		t.Fatalf("Pages: %v, %d, not %d", l, e, want)
	}
}

func lookNoAt(t *testing.T, v *vault.Vault, nodes, names int, want api.Errno) {
	t.Helper()
	if s, e := At(v, nodes, names); s != nil || e != want {
		t.Fatalf("P20.1: At(%d, %d): %v, %d, not %d", nodes, names, s, e, want)
	}
}

// wild is nodes that are no documents, each with Put's error.
func wild() map[api.Errno]api.Node {
	many := make([]api.Node, api.MaxNodes)
	for i := range many {
		many[i] = Elem("a")
	}
	words := make([]api.Node, 0, 20)
	for range 10 {
		words = append(words, Text(strings.Repeat("<", 2000)), Elem("a"))
	}
	return map[api.Errno]api.Node{
		api.ErrKind:  Elem("a"),
		api.ErrDeep:  Doc(Chain(Elem("a"), 33)),
		api.ErrLimit: Doc(Elem("a", many...)),
		api.ErrName:  Doc(Elem("1")),
		api.ErrChar:  Doc(Elem("a", Text("\x00"))),
		api.ErrOrder: Doc(With(Elem("a"), "", "c", "", "", "b", "")),
		api.ErrText:  Doc(Elem("a", Text("b"), Text("c"))),
		api.ErrRoot:  Doc(Comment("c")),
		api.ErrLong:  Doc(Elem("a", words...)),
	}
}

var numbers = []int{-1, math.MinInt, 1 << 32, math.MaxInt}

// TestP1Nil: a nil shelf, one that comes of no Make, and one of a nil vault.
func TestP1Nil(t *testing.T) {
	var s *Shelf
	for _, doc := range append(numbers, 0, 7, 1<<32-1) {
		lookRefused(t, s, doc, api.ErrNil)
		for _, d := range wild() {
			Look(t, "Put", s.Put(doc, d), api.ErrNil)
		}
		Look(t, "Edit", s.Edit(doc, edit.Edit{}), api.ErrNil)
	}
	lookNoLists(t, s, api.ErrNil)
	lookRoots(t, s, 0, 0)
	s = &Shelf{}
	s.Roots()
	s.Docs()
	s.Pages()
	for _, doc := range []int{-1, 0} {
		s.Put(doc, Doc(Elem("a")))
		s.Get(doc)
		s.Labels(doc)
		s.Drop(doc)
		s.Edit(doc, edit.Edit{})
	}
	if s, e := Make(nil); s != nil || e != api.ErrNil {
		t.Errorf("P20.1: Make of a nil vault: %v, %d", s, e)
	}
	if s, e := Make(&vault.Vault{}); s != nil || e == api.OK {
		t.Errorf("P20.1: Make of a vault that wasn't opened: %v, %d", s, e)
	}
	for _, n := range []int{0, 1, -1, math.MaxInt} {
		lookNoAt(t, nil, n, 2, api.ErrNil)
		lookNoAt(t, &vault.Vault{}, 1, n, api.ErrArg)
	}
}

// TestErrors: which error comes ahead of which: first what is wrong with the number, with the document and with the edit; behind these that there is no transaction, or no power.
func TestErrors(t *testing.T) {
	d := NewDrum(t, 1200)
	v := Opened(t, d, 64)
	if s, e := Make(v); s != nil || e != api.ErrState {
		t.Errorf("P20.1: Make without a transaction: %v, %d", s, e)
	}
	Look(t, "Begin", v.Begin(), api.OK)
	s := made(t, v)
	x := put(t, s, 7, Doc(Elem("a", Elem("b"), Text("x"))))
	word := func(op int, path ...int) edit.Edit { return edit.Edit{Op: op, At: path, Text: "w", Node: Elem("c")} }
	state := api.OK
	refused := func() {
		t.Helper()
		for _, doc := range numbers {
			for _, d := range wild() {
				Look(t, "Put", s.Put(doc, d), api.ErrArg)
			}
			lookRefused(t, s, doc, api.ErrArg)
			Look(t, "Edit", s.Edit(doc, word(99)), api.ErrArg)
		}
		for e, d := range wild() {
			Look(t, "Put", s.Put(7, d), e)
			Look(t, "Put", s.Put(8, d), e)
		}
		if state == api.ErrDown {
			return
		}
		lookNone(t, s, 8)
		Look(t, "Edit", s.Edit(8, word(99)), api.ErrNone)
		for _, op := range []int{0, 7, -1, math.MaxInt} {
			Look(t, "Edit", s.Edit(7, word(op)), api.ErrArg)
		}
		Look(t, "Edit", s.Edit(7, word(edit.Write)), api.ErrPath)
		Look(t, "Edit", s.Edit(7, word(edit.Insert, 0, 3)), api.ErrPath)
		Look(t, "Edit", s.Edit(7, word(edit.Delete, 0, 2)), api.ErrPath)
		Look(t, "Edit", s.Edit(7, word(edit.Delete, 0, -1)), api.ErrPath)
		Look(t, "Edit", s.Edit(7, word(edit.Write, 0)), api.ErrKind)
		Look(t, "Edit", s.Edit(7, word(edit.Drop, 0)), api.ErrNone)
		Look(t, "Edit", s.Edit(7, word(edit.Delete, 0)), api.ErrRoot)
		Look(t, "Edit", s.Edit(7, edit.Edit{Op: edit.Insert, At: []int{0, 2}, Node: Text("y")}), api.ErrText)
	}
	refused()
	Look(t, "Commit", v.Commit(), api.OK)
	refused()
	// What changes something needs a transaction.
	Look(t, "Put", s.Put(7, Doc(Elem("new"))), api.ErrState)
	Look(t, "Put", s.Put(7, x.whole()), api.ErrState)
	Look(t, "Put", s.Put(8, x.whole()), api.ErrState)
	lookNoDrop(t, s, 7, api.ErrState)
	for _, e := range []edit.Edit{word(edit.Insert, 0, 1), word(edit.Delete, 0, 0), word(edit.Replace, 0, 1), word(edit.Write, 0, 1), {Op: edit.Set, At: []int{0}, Name: api.Name{Local: "b"}}} {
		Look(t, "Edit", s.Edit(7, e), api.ErrState)
	}
	LookOwned(t, v, lookWhole(t, s, books{7: x}))
	Look(t, "Fuse", d.Fuse(0), api.OK)
	Look(t, "Checkpoint", v.Checkpoint(), api.ErrDown)
	state = api.ErrDown
	refused()
	lookRefused(t, s, 7, api.ErrDown)
	lookRefused(t, s, 8, api.ErrDown)
	lookNoLists(t, s, api.ErrDown)
	lookNoAt(t, v, 1, 2, api.ErrDown)
	if s, e := Make(v); s != nil || e != api.ErrDown {
		t.Errorf("P20.1: Make without power: %v, %d", s, e)
	}
}

// TestP20_1Make: a new shelf is its two roots alone; shelves of the same roots are one.
func TestP20_1Make(t *testing.T) {
	v := Begun(t, 1200, 64)
	a, b := made(t, v), made(t, v)
	lookRoots(t, a, 1, 2)
	lookRoots(t, b, 3, 4)
	LookOwned(t, v, lookWhole(t, a, books{}), lookWhole(t, b, books{}))
	if l, _ := b.Pages(); !slices.Equal(l, []int{3, 4}) {
		t.Errorf("P20.1: Pages of a new shelf: %v", l)
	}
	lookNone(t, a, 0)
	same := at(t, v, 1, 2)
	m, n := books{}, books{}
	m[1] = put(t, a, 1, Doc(Elem("a")))
	m[2] = put(t, same, 2, Doc(Elem("b")))
	n[1] = put(t, b, 1, Doc(Elem("c")))
	lookWhole(t, a, m)
	LookOwned(t, v, lookWhole(t, same, m), lookWhole(t, at(t, v, 3, 4), n))
	for _, root := range []int{0, 5, -1, math.MaxInt, math.MinInt} {
		lookNoAt(t, v, root, 2, api.ErrArg)
		lookNoAt(t, v, 1, root, api.ErrArg)
	}
	h, e := hedge.At(v, 3)
	Look(t, "hedge's At", e, api.OK)
	Look(t, "hedge's Drop", h.Drop(), api.OK)
	lookRefused(t, b, 1, api.ErrArg)
	lookNoAt(t, v, 3, 4, api.ErrArg)
}

// TestP20_1MakeFull: a Make that is refused takes no page.
func TestP20_1MakeFull(t *testing.T) {
	v := Begun(t, 200, 64)
	for v.Pages()-2 > len(v.Taken()) {
		if _, e := v.Alloc(); e != api.OK {
			t.Fatalf("vault's Alloc: %d", e)
		}
	}
	taken := v.Taken()
	for range 2 {
		if s, e := Make(v); s != nil || e != api.ErrFull {
			t.Errorf("P6: Make in a vault with one page: %v, %d", s, e)
		}
		if l := v.Taken(); !slices.Equal(l, taken) {
			t.Errorf("P6: Make that is refused takes %d pages", len(l)-len(taken))
		}
	}
	Look(t, "vault's Free", v.Free(3), api.OK)
	made(t, v)
	v = Begun(t, 800, 4) // three pages may change: the map is one of them
	if _, e := v.Alloc(); e != api.OK {
		t.Fatalf("vault's Alloc: %d", e)
	}
	if s, e := Make(v); s != nil || e != api.ErrLimit {
		t.Errorf("P6: Make in a transaction that may change one page: %v, %d", s, e)
	}
	if l := v.Taken(); !slices.Equal(l, []int{1}) {
		t.Errorf("P6: Make that is refused leaves %v", l)
	}
}

// TestP20Example: the chapter's example.
func TestP20Example(t *testing.T) {
	s := made(t, Begun(t, 800, 64))
	look := func(want ...[]int) {
		t.Helper()
		if l, e := s.Labels(7); !slices.EqualFunc(l, want, slices.Equal[[]int]) || e != api.OK {
			t.Errorf("P20.3: Labels: %v, %d, not %v", l, e, want)
		}
	}
	Look(t, "P20.1: Put", s.Put(7, Doc(Elem("a", Elem("b"), Text("x")))), api.OK)
	look(nil, []int{1}, []int{1, 1}, []int{1, 3})
	Look(t, "P20.2: Edit", s.Edit(7, edit.Edit{Op: edit.Insert, At: []int{0, 1}, Node: Elem("c")}), api.OK)
	look(nil, []int{1}, []int{1, 1}, []int{1, 2, 1}, []int{1, 3})
	Look(t, "P20.2: Edit", s.Edit(7, edit.Edit{Op: edit.Delete, At: []int{0, 0}}), api.OK)
	look(nil, []int{1}, []int{1, 2, 1}, []int{1, 3})
	if d, ok, e := s.Get(7); !ok || e != api.OK || !tree.Equal(d, Doc(Elem("a", Elem("c"), Text("x")))) {
		t.Errorf("P20.1: Get: %v, %v, %d", d, ok, e)
	}
	if l, e := s.Docs(); !slices.Equal(l, []int{7}) || e != api.OK {
		t.Errorf("P20.1: Docs: %v, %d", l, e)
	}
}

// TestP20_1Docs: documents under all kinds of numbers, in the place of others, and gone again.
func TestP20_1Docs(t *testing.T) {
	v := Begun(t, 8000, 900)
	s := made(t, v)
	m := books{}
	dice := Dice(202)
	docs := []int{1<<32 - 1, 65536, 0, 255, 256, 1, 1 << 24, 1<<24 + 1, 1<<31 - 1, 1 << 31, 2, 1<<32 - 2, 65535, 0x74000000}
	for range 2 {
		for _, doc := range docs {
			m[doc] = put(t, s, doc, dice.Document())
			LookOwned(t, v, lookWhole(t, s, m))
		}
	}
	for _, doc := range docs {
		lookDrop(t, s, doc, true)
		delete(m, doc)
		lookNone(t, s, doc)
		LookOwned(t, v, lookWhole(t, s, m))
	}
	if l, e := s.nodes.Pages(); len(l) != 1 || e != api.OK {
		t.Errorf("P6: no document stands in %v, %d", l, e)
	}
}

// wide is a document of so many nodes, the document counted.
func wide(nodes int) api.Node {
	var kids []api.Node
	for i := range nodes - 2 {
		if i%2 == 0 {
			kids = append(kids, With(Elem("b"), "u", "c", strings.Repeat("v", i%7)))
		} else {
			kids = append(kids, Text("x"))
		}
	}
	return Doc(Elem("a", kids...))
}

// TestP20_1Beside: documents of all sizes, each with others beside it that stay what they are.
func TestP20_1Beside(t *testing.T) {
	v := Begun(t, 8000, 900)
	s := made(t, v)
	m := books{}
	m[4] = put(t, s, 4, wide(50))
	m[6] = put(t, s, 6, wide(3))
	for _, nodes := range []int{2, 3, 30, 31, 32, 33, 34, 63, 64, 65, 95, 96, 97, 127, 128, 129, 200} {
		m[5] = put(t, s, 5, wide(nodes))
		lookWhole(t, s, m)
		m[5] = changes(t, s, 5, m[5], edit.Edit{Op: edit.Insert, At: []int{0, nodes - 2}, Node: Comment("last")})
		m[5] = changes(t, s, 5, m[5], edit.Edit{Op: edit.Insert, At: []int{0, 0}, Node: Comment("first")})
		LookOwned(t, v, lookWhole(t, s, m))
		if nodes%2 == 0 {
			lookDrop(t, s, 5, true)
			delete(m, 5)
			LookOwned(t, v, lookWhole(t, s, m))
		}
	}
}

// TestP2Limits: the greatest documents, in each way, are got as they were put.
func TestP2Limits(t *testing.T) {
	long := strings.Repeat("n", api.MaxName)
	var attrs, names []string
	for i := range api.MaxAttrs {
		mark := string(rune('A'+i/26)) + string(rune('a'+i%26))
		attrs = append(attrs, "", "a"+mark, strings.Repeat("v", 1000))
		names = append(names, strings.Repeat("u", 98)+mark, strings.Repeat("l", 98)+mark, "")
	}
	deep := Chain(Text("bottom"), 33)
	for range 32 {
		deep = Elem("a", append([]api.Node{Comment(""), Elem("b")}, deep.Kids...)...)
	}
	v := Begun(t, 16384, 1024)
	s := made(t, v)
	m := books{}
	for i, d := range []api.Node{
		wide(api.MaxNodes + 1),
		Doc(Chain(Elem("a", Text("x")), 32)),
		Doc(deep),
		Doc(With(Elem("a"), attrs...)),
		Doc(Chain(With(In(strings.Repeat("w", 100), Elem(long)), names...), 1)),
		Doc(With(Elem("a", Text(strings.Repeat("]", 8192)), Elem("b"), Text(strings.Repeat("t", 8192))), "", "c", strings.Repeat("v", 8192))),
		Doc(Comment(""), Instr(long, ""), Instr("i", strings.Repeat("t", 8192)), Elem("a"), Comment(strings.Repeat("c", 8192))),
		Doc(In(api.SpaceXML, With(Elem("a"), api.SpaceXML, "lang", "\t\n\r", "é", "é", "\U0001f600"))),
		Doc(Elem("a", Text(" "), Elem("b", Text("\r")), Text("\u0085"))),
	} {
		m[i] = put(t, s, i, d)
		LookOwned(t, v, lookWhole(t, s, m))
		Again(t, v)
	}
	for i := range 8 { // each in the place of another one
		m[i] = put(t, s, i, m[i+1].whole())
		Again(t, v)
	}
	LookOwned(t, v, lookWhole(t, s, m))
}

// TestP20Values: the value of a node without a text and attributes is small, however long its name is.
func TestP20Values(t *testing.T) {
	s := made(t, Begun(t, 8000, 900))
	put(t, s, 1<<32-1, Doc(In(strings.Repeat("u", 100), Elem(strings.Repeat("l", 100), wide(100).Kids[0], Comment(""), Instr(strings.Repeat("i", 100), ""))), Comment("")))
	for i := range 300 { // many names, so that the numbers of the last ones are great
		put(t, s, i, Doc(In("u"+strings.Repeat("v", i%90), Elem("a"+string(rune('A'+i%26))+strings.Repeat("b", i/26)))))
	}
	for k, value := range standing(t, s.nodes) {
		n, e := s.node([]byte(value))
		Look(t, "node", e, api.OK)
		if len(n.Attrs) == 0 && n.Text == "" && len(value) > 96 {
			t.Errorf("%x: %v has a value of %d bytes", k, n, len(value))
		}
	}
}

// TestP20_2Ops: all edits, at the begin, in the midst and at the end of kids; nodes that stay keep their labels.
func TestP20_2Ops(t *testing.T) {
	d := Doc(Comment("c"), With(Elem("a", Elem("b"), Text("x"), Elem("e", Elem("f", Text("y")), Instr("i", "")), Comment("z")), "", "k", "1", "u", "k", "2"), Instr("i", "w"))
	tall := Elem("t", Text("1"), Elem("s", Comment("2"), Text("3")), Elem("r"))
	v := Begun(t, 2000, 200)
	s := made(t, v)
	beside := put(t, s, 2, d)
	var edits []edit.Edit
	for path := range tree.All(d) {
		for _, n := range []api.Node{tall, Elem("b"), Text("w"), Comment("w"), Instr("w", "v"), Doc(), {}} {
			edits = append(edits, edit.Edit{Op: edit.Insert, At: path, Node: n}, edit.Edit{Op: edit.Replace, At: path, Node: n})
			edits = append(edits, edit.Edit{Op: edit.Insert, At: append(slices.Clone(path), 0), Node: n}, edit.Edit{Op: edit.Insert, At: append(slices.Clone(path), 4), Node: n})
		}
		edits = append(edits, edit.Edit{Op: edit.Delete, At: path}, edit.Edit{Op: edit.Write, At: path, Text: "new"}, edit.Edit{Op: edit.Write, At: path})
		for _, space := range []string{"", "u", "v"} {
			for _, local := range []string{"a", "k", "z"} {
				name := api.Name{URI: space, Local: local}
				edits = append(edits, edit.Edit{Op: edit.Set, At: path, Name: name, Text: "v"}, edit.Edit{Op: edit.Set, At: path, Name: name}, edit.Edit{Op: edit.Drop, At: path, Name: name})
			}
		}
	}
	done := 0
	for _, e := range edits {
		x := put(t, s, 1, d)
		y := changes(t, s, 1, x, e)
		if tree.Equal(x.whole(), y.whole()) {
			continue
		}
		done++
		// The same once more, where labels are other ones already.
		y = changes(t, s, 1, y, e)
		y = changes(t, s, 1, y, edit.Edit{Op: edit.Insert, At: []int{1, 0}, Node: Comment("n")})
		changes(t, s, 1, y, e)
		lookDoc(t, s, 2, beside)
	}
	if done < 100 {
		t.Errorf("%d edits were done", done)
	}
	LookOwned(t, v, lookPages(t, s))
}

// TestP20_2Pairs: an edit changes no more pairs than those of the nodes that come, go or are changed; and few pages, however great the document is.
func TestP20_2Pairs(t *testing.T) {
	v := Opened(t, NewDrum(t, 16384), 1024)
	Look(t, "Begin", v.Begin(), api.OK)
	s := made(t, v)
	x := put(t, s, 1, wide(1500))
	put(t, s, 2, wide(20))
	Again(t, v)
	name := api.Name{URI: "u", Local: "c"}
	for i, e := range []edit.Edit{
		{Op: edit.Insert, At: []int{0, 700}, Node: Elem("e", Text("f"))},
		{Op: edit.Delete, At: []int{0, 700}},
		{Op: edit.Replace, At: []int{0, 3}, Node: Comment("g")},
		{Op: edit.Set, At: []int{0, 900}, Name: name, Text: "other"},
		{Op: edit.Set, At: []int{0}, Name: name, Text: "new"},
		{Op: edit.Drop, At: []int{0, 900}, Name: name},
		{Op: edit.Write, At: []int{0, 901}, Text: "longer"},
	} {
		before, names := standing(t, s.nodes), 0
		many, _ := s.names.Many()
		_, most, f := x.edited(e)
		Look(t, "edited", f, api.OK)
		x = changes(t, s, 1, x, e)
		if count := Apart(before, standing(t, s.nodes)); count == 0 || count > most {
			t.Errorf("P20.2: %d pairs differ behind edit %d, not %d", count, i, most)
		}
		if names, _ = s.names.Many(); names > many+1 {
			t.Errorf("P20.2: %d names get numbers", names-many)
		}
		Again(t, v)
	}
	// What doesn't change a pair changes no page.
	groups := v.Groups()
	changes(t, s, 1, x, edit.Edit{Op: edit.Write, At: []int{0, 901}, Text: "longer"})
	Look(t, "Put", s.Put(2, wide(20)), api.OK)
	Again(t, v)
	if v.Groups() != groups {
		t.Error("P20.2: pairs that stay are changed")
	}
}

// squeezed is a shelf with a document whose element has two kids, between which there is hardly room for more.
func squeezed(t *testing.T, v *vault.Vault, bytes int) (*Shelf, stem) {
	t.Helper()
	s := made(t, v)
	x := put(t, s, 1, Doc(Elem("a", Elem("b"), Elem("b"))))
	for i := range 2000 {
		x = changes(t, s, 1, x, edit.Edit{Op: edit.Insert, At: []int{0, 1}, Node: Elem("b")})
		// The new kid stays, and by turns the one ahead of it, or the one behind.
		x = changes(t, s, 1, x, edit.Edit{Op: edit.Delete, At: []int{0, i % 2 * 2}})
		if b, _ := label.Bytes(x.kids[0].kids[1].label); len(b) >= bytes {
			return s, x
		}
		Again(t, v)
	}
	t.Fatal("P5: there is room on and on")
	return nil, stem{}
}

// TestP20_2NoRoom: where a label would be too long there is no room, and nothing changes; a document that is put anew has room again.
func TestP20_2NoRoom(t *testing.T) {
	v := Begun(t, 2000, 200)
	s, x := squeezed(t, v, api.MaxLabel)
	insert := edit.Edit{Op: edit.Insert, At: []int{0, 1}, Node: With(Elem("new"), "space", "name", "")}
	before := standing(t, s.nodes)
	full := 0
	for range 100 {
		before = standing(t, s.nodes)
		if s.Edit(1, insert) == api.ErrLimit {
			full++
			break
		}
		x, _, _ = x.edited(insert)
		x = changes(t, s, 1, x, edit.Edit{Op: edit.Delete, At: []int{0, 0}})
	}
	if full == 0 {
		t.Fatal("P5: there is room on and on")
	}
	many, _ := s.names.Many()
	image := Image(t, v)
	changes(t, s, 1, x, insert)
	if n, _ := s.names.Many(); n != many || Apart(before, standing(t, s.nodes)) != 0 || !maps.Equal(image, Image(t, v)) {
		t.Error("P20.2: an Edit for which there is no room changes something")
	}
	Look(t, "Commit", v.Commit(), api.OK)
	Look(t, "P20.2: Edit", s.Edit(1, insert), api.ErrLimit) // ahead of ErrState
	Look(t, "Begin", v.Begin(), api.OK)
	lookDoc(t, s, 1, x)
	x = put(t, s, 1, x.whole())
	x = changes(t, s, 1, x, insert)
	LookOwned(t, v, lookWhole(t, s, books{1: x}))
}

// TestP20_2NoRoomBelow: there is room for a node, but not for what stands below it.
func TestP20_2NoRoomBelow(t *testing.T) {
	v := Begun(t, 16384, 1024)
	s, x := squeezed(t, v, api.MaxLabel-6)
	Again(t, v)
	var tall []edit.Edit
	kids := slices.Repeat([]api.Node{Elem("kid", Elem("kid", Elem("kid", slices.Repeat([]api.Node{Comment("")}, 300)...)))}, 2)
	for _, n := range []api.Node{Chain(Elem("new"), 30), Elem("new", kids...), Elem("new", kids[0].Kids...), Elem("new", kids[0].Kids[0].Kids[0].Kids[:9]...)} {
		tall = append(tall, edit.Edit{Op: edit.Insert, At: []int{0, 1}, Node: n}, edit.Edit{Op: edit.Replace, At: []int{0, 1}, Node: n}, edit.Edit{Op: edit.Replace, At: []int{0, 0}, Node: n})
	}
	before, limits := Image(t, v), 0
	for _, e := range tall {
		if _, _, f := x.edited(e); f == api.ErrLimit {
			limits++
			changes(t, s, 1, x, e)
			if !maps.Equal(before, Image(t, v)) {
				t.Fatal("P20.2: an Edit for which there is no room changes something")
			}
			continue
		}
		changes(t, s, 1, x, e)
		Undo(t, v)
		lookDoc(t, s, 1, x)
	}
	if limits < 3 || limits == len(tall) {
		t.Errorf("P20.2: ErrLimit came %d times", limits)
	}
	x = changes(t, s, 1, x, edit.Edit{Op: edit.Replace, At: []int{0, 1}, Node: Elem("new", Text("kid"))})
	x = changes(t, s, 1, x, edit.Edit{Op: edit.Insert, At: []int{0, 1}, Node: Elem("new", Text("kid"))})
	LookOwned(t, v, lookWhole(t, s, books{1: x}))
}

// TestP20_2TooLong: an edit that makes more bytes than a document may have.
func TestP20_2TooLong(t *testing.T) {
	s := made(t, Begun(t, 8000, 900))
	var kids []api.Node
	for range 8 {
		kids = append(kids, Text(strings.Repeat("t", 8000)), Elem("b"))
	}
	x := put(t, s, 1, Doc(Elem("a", kids...)))
	for _, e := range []edit.Edit{{Op: edit.Write, At: []int{0, 0}, Text: strings.Repeat("&", 8000)}, {Op: edit.Insert, At: []int{0, 16}, Node: Text(strings.Repeat("t", 8000))}, {Op: edit.Set, At: []int{0}, Name: api.Name{Local: "a"}, Text: strings.Repeat("t", 8000)}} {
		before := standing(t, s.nodes)
		if _, _, f := x.edited(e); f != api.ErrLong {
			t.Fatalf("edited: %d", f)
		}
		x = changes(t, s, 1, x, e)
		if Apart(before, standing(t, s.nodes)) != 0 {
			t.Error("P20.2: an Edit that is refused changes something")
		}
	}
}

// TestP20Memory: what is handed in stays and isn't kept; what is answered shares nothing.
func TestP20Memory(t *testing.T) {
	v := Begun(t, 2000, 200)
	s := made(t, v)
	d := func() api.Node {
		return Doc(With(In("u", Elem("a", Elem("b", Text("x")), Text("y"), Elem("c"))), "", "k", "1"), Comment("z"))
	}
	n := func() api.Node { return With(Elem("e", Elem("f"), Text("g")), "u", "h", "i") }
	handed := d()
	Look(t, "Put", s.Put(1, handed), api.OK)
	if !tree.Equal(handed, d()) {
		t.Error("P20.1: Put changes what is handed in")
	}
	Spoil(handed)
	x := planted(nil, d())
	lookDoc(t, s, 1, x)
	e := edit.Edit{Op: edit.Insert, At: append(make([]int, 0, 9), 0, 1), Node: n()}
	Look(t, "Edit", s.Edit(1, e), api.OK)
	if !slices.Equal(e.At[:9], []int{0, 1, 0, 0, 0, 0, 0, 0, 0}) || !tree.Equal(e.Node, n()) {
		t.Error("P20.2: Edit changes what is handed in")
	}
	x, _, _ = x.edited(edit.Edit{Op: edit.Insert, At: []int{0, 1}, Node: n()})
	Spoil(e.Node)
	clear(e.At)
	lookDoc(t, s, 1, x)
	a, _, _ := s.Get(1)
	b, _, _ := s.Get(1)
	Spoil(a)
	if !tree.Equal(b, x.whole()) {
		t.Error("P20.1: answers of Get share memory")
	}
	l, _ := s.Labels(1)
	m, _ := s.Labels(1)
	for i, numbers := range l {
		for j := range numbers[:cap(numbers)] {
			numbers[:cap(numbers)][j] = i
		}
	}
	for i, numbers := range l {
		for _, v := range numbers[:cap(numbers)] {
			if v != i {
				t.Fatal("P20.3: the labels of an answer share memory")
			}
		}
	}
	if !slices.EqualFunc(m, x.labels(), slices.Equal[[]int]) {
		t.Error("P20.3: answers of Labels share memory")
	}
	for _, list := range []func() ([]int, api.Errno){s.Docs, s.Pages} {
		l, _ := list()
		m, _ := list()
		clear(l[:cap(l)])
		if again, _ := list(); !slices.Equal(m, again) {
			t.Error("P20.1: answers of Docs or Pages share memory")
		}
	}
	lookWhole(t, s, books{1: x})
}

// TestP1Same: what is answered and written depends on nothing else.
func TestP1Same(t *testing.T) {
	var images []map[int]string
	for range 2 {
		v := Begun(t, 8000, 900)
		s := made(t, v)
		dice := Dice(203)
		for i := range 40 {
			d := dice.Document()
			put(t, s, i%9, d)
			s.Edit(i%9, DrawnEdit(&dice, d))
		}
		images = append(images, Image(t, v))
	}
	if !maps.Equal(images[0], images[1]) {
		t.Error("P1: what is told twice is written in two ways")
	}
}

// TestP4Transactions: what a transaction did is gone with its Abort, and there with its Commit.
func TestP4Transactions(t *testing.T) {
	d := NewDrum(t, 4000)
	v := Opened(t, d, 300)
	Look(t, "Begin", v.Begin(), api.OK)
	made(t, v)
	Undo(t, v)
	lookNoAt(t, v, 1, 2, api.ErrArg)
	s := made(t, v)
	dice := Dice(204)
	m := books{}
	for range 4 {
		for doc := range 6 {
			m[doc] = put(t, s, doc, dice.Document())
		}
		Look(t, "Commit", v.Commit(), api.OK)
		Look(t, "Begin", v.Begin(), api.OK)
		before := Image(t, v)
		for doc := range 5 {
			x := put(t, s, doc+3, dice.Document())
			s.Edit(doc+3, DrawnEdit(&dice, x.whole()))
			lookDrop(t, s, doc, true)
		}
		Look(t, "Abort", v.Abort(), api.OK)
		if !maps.Equal(before, Image(t, v)) {
			t.Fatal("P4: Abort leaves something")
		}
		LookOwned(t, v, lookWhole(t, s, m))
		Look(t, "Crash", d.Crash(nil), api.OK)
		v = Opened(t, d, 300)
		s = at(t, v, 1, 2)
		LookOwned(t, v, lookWhole(t, s, m))
		Look(t, "Begin", v.Begin(), api.OK)
	}
}

// TestP6Full: documents come till the vault is full; what was committed is there, and can be taken out again.
func TestP6Full(t *testing.T) {
	d := NewDrum(t, 1000)
	v := Opened(t, d, 1024)
	Look(t, "Begin", v.Begin(), api.OK)
	s := made(t, v)
	m := books{}
	for doc := 0; ; doc++ {
		Again(t, v)
		next := Doc(Elem("a", Elem("b", Text(strings.Repeat("t", 1+40*doc%300))), Text("x")))
		e := s.Put(doc, next)
		if e == api.OK {
			m[doc] = planted(nil, next)
			continue
		}
		Look(t, "P6: Put", e, api.ErrFull)
		break
	}
	if len(m) < 50 {
		t.Errorf("P6: %d documents", len(m))
	}
	Undo(t, v)
	LookOwned(t, v, lookWhole(t, s, m))
	Look(t, "Crash", d.Crash(nil), api.OK)
	v = Opened(t, d, 64)
	s = at(t, v, 1, 2)
	LookOwned(t, v, lookWhole(t, s, m))
	for doc := range len(m) {
		Look(t, "Begin", v.Begin(), api.OK)
		lookDrop(t, s, doc, true)
		delete(m, doc)
		Look(t, "Commit", v.Commit(), api.OK)
	}
	LookOwned(t, v, lookWhole(t, s, m))
	if l := v.Taken(); len(l) != 2 {
		t.Errorf("P6: no document stands, and taken are %v", l)
	}
}

// TestP6Limit: a transaction may change too few pages for a document; smaller ones go on.
func TestP6Limit(t *testing.T) {
	v := Begun(t, 4000, 16)
	s := made(t, v)
	Again(t, v)
	Look(t, "P6: Put", s.Put(1, wide(1000)), api.ErrLimit)
	Undo(t, v)
	LookOwned(t, v, lookWhole(t, s, books{}))
	x := put(t, s, 1, wide(40))
	Again(t, v)
	Look(t, "P6: Edit", s.Edit(1, edit.Edit{Op: edit.Insert, At: []int{0, 0}, Node: wide(900).Kids[0]}), api.ErrLimit)
	Undo(t, v)
	LookOwned(t, v, lookWhole(t, s, books{1: x}))
	x = changes(t, s, 1, x, edit.Edit{Op: edit.Insert, At: []int{0, 0}, Node: wide(9).Kids[0]})
	LookOwned(t, v, lookWhole(t, s, books{1: x}))
}

// TestP6Names: there is room for a document's nodes, but not for their names.
func TestP6Names(t *testing.T) {
	v := Begun(t, 1200, 64)
	s := made(t, v)
	for v.Pages()-1 > len(v.Taken()) {
		if _, e := v.Alloc(); e != api.OK {
			t.Fatalf("vault's Alloc: %d", e)
		}
		Again(t, v)
	}
	m := books{}
	for doc := range 5 {
		d := Doc(In(strings.Repeat("u", 90)+string(rune('a'+doc)), Elem("a")))
		if e := s.Put(doc, d); e != api.OK {
			Look(t, "P6: Put", e, api.ErrFull)
			Undo(t, v)
			break
		}
		m[doc] = planted(nil, d)
		Again(t, v)
	}
	if len(m) == 0 || len(m) == 5 {
		t.Errorf("P6: %d documents", len(m))
	}
	lookWhole(t, s, m)
	m[9] = put(t, s, 9, m[0].whole())
	lookWhole(t, s, m)
}

// TestP6Drop: a transaction may change too few pages for a document to go.
func TestP6Drop(t *testing.T) {
	d := NewDrum(t, 4000)
	v := Opened(t, d, 900)
	Look(t, "Begin", v.Begin(), api.OK)
	s := made(t, v)
	m := books{}
	m[1], m[2] = put(t, s, 1, wide(400)), put(t, s, 2, wide(400))
	Look(t, "Commit", v.Commit(), api.OK)
	v = Opened(t, d, 4)
	s = at(t, v, 1, 2)
	Look(t, "Begin", v.Begin(), api.OK)
	lookNoDrop(t, s, 1, api.ErrLimit)
	Undo(t, v)
	LookOwned(t, v, lookWhole(t, s, m))
	v = Opened(t, d, 64)
	s = at(t, v, 1, 2)
	Look(t, "Begin", v.Begin(), api.OK)
	lookDrop(t, s, 1, true)
	delete(m, 1)
	LookOwned(t, v, lookWhole(t, s, m))
}
