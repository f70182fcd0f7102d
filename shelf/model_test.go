package shelf

import (
	"fmt"
	"maps"
	"math"
	"slices"
	"strings"
	"testing"

	"lectern/api"
	"lectern/canon"
	"lectern/drum"
	"lectern/edit"
	"lectern/hedge"
	"lectern/label"
	. "lectern/rig"
	"lectern/sample"
	"lectern/tree"
	"lectern/vault"
)

// stem is a node as the model keeps it: with its label, and with stems as kids.
type stem struct {
	label []int
	node  api.Node
	kids  []stem
}

// planted is a node as it is put, under a label.
func planted(l []int, n api.Node) stem {
	x := stem{label: l, node: n}
	for k, kid := range n.Kids {
		x.kids = append(x.kids, planted(append(slices.Clone(l), 2*k+1), kid))
	}
	x.node.Kids = nil
	return x
}

// whole is the node with all below it.
func (x stem) whole() api.Node {
	n := x.node
	for _, kid := range x.kids {
		n.Kids = append(n.Kids, kid.whole())
	}
	return n
}

// labels is the labels of the node and all below it.
func (x stem) labels() [][]int {
	l := [][]int{x.label}
	for _, kid := range x.kids {
		l = append(l, kid.labels()...)
	}
	return l
}

// labelAt is a kid's label; none, if there is no such kid.
func (x stem) labelAt(at int) []int {
	if at < 0 || at >= len(x.kids) {
		return nil
	}
	return x.kids[at].label
}

// changed is x with the node ahead of the end of a path changed.
func (x stem) changed(path []int, change func(x stem, at int) stem) stem {
	x.kids = slices.Clone(x.kids)
	if len(path) == 1 {
		return change(x, path[0])
	}
	x.kids[path[0]] = x.kids[path[0]].changed(path[1:], change)
	return x
}

// edited is what becomes of a document by an edit, and how many nodes come, go, or are changed.
func (x stem) edited(e edit.Edit) (stem, int, api.Errno) {
	before := x.whole()
	out, f := edit.Apply(before, e)
	if f == api.OK {
		_, f = canon.Write(out)
	}
	if f != api.OK {
		return stem{}, 0, f
	}
	old, _ := tree.At(before, e.At)
	n, _ := tree.At(out, e.At)
	count := 1
	x = x.changed(e.At, func(in stem, at int) stem {
		switch e.Op {
		case edit.Insert:
			var top []int
			top, f = label.Between(in.label, in.labelAt(at-1), in.labelAt(at))
			in.kids = slices.Insert(in.kids, at, planted(top, n))
			count = tree.Size(n)
		case edit.Delete:
			in.kids = slices.Delete(in.kids, at, at+1)
			count = tree.Size(old)
		case edit.Replace:
			in.kids[at] = planted(in.kids[at].label, n)
			count = tree.Size(old) + tree.Size(n)
		default:
			n.Kids = nil
			in.kids[at].node = n
		}
		return in
	})
	for _, l := range x.labels() {
		if label.Check(l) != api.OK {
			f = api.ErrLimit
		}
	}
	if f != api.OK {
		return stem{}, 0, f
	}
	return x, count, api.OK
}

// brief is how something is told that may be very long.
func brief(x any) string {
	s := fmt.Sprintf("%+v", x)
	return s[:min(len(s), 500)]
}

// made is a new shelf.
func made(t *testing.T, v *vault.Vault) *Shelf {
	t.Helper()
	s, e := Make(v)
	if s == nil || e != api.OK {
		t.Fatalf("P20.1: Make: %v, %d", s, e)
	}
	return s
}

// at is the shelf with such roots.
func at(t *testing.T, v *vault.Vault, nodes, names int) *Shelf {
	t.Helper()
	s, e := At(v, nodes, names)
	if s == nil || e != api.OK {
		t.Fatalf("P20.1: At(%d, %d): %v, %d", nodes, names, s, e)
	}
	lookRoots(t, s, nodes, names)
	return s
}

func lookRoots(t *testing.T, s *Shelf, nodes, names int) {
	t.Helper()
	if a, b := s.Roots(); a != nodes || b != names {
		t.Fatalf("P20.1: Roots: %d, %d, not %d, %d", a, b, nodes, names)
	}
}

// put puts a document that is right.
func put(t *testing.T, s *Shelf, doc int, d api.Node) stem {
	t.Helper()
	if e := s.Put(doc, d); e != api.OK {
		t.Fatalf("P20.1: Put(%d): %d", doc, e)
	}
	x := planted(nil, d)
	lookDoc(t, s, doc, x)
	return x
}

// changes does an edit, and answers what stands then.
func changes(t *testing.T, s *Shelf, doc int, x stem, e edit.Edit) stem {
	t.Helper()
	want, _, f := x.edited(e)
	if g := s.Edit(doc, e); g != f {
		t.Fatalf("P20.2: Edit(%s): %d, not %d", brief(e), g, f)
	}
	if f == api.OK {
		x = want
	}
	lookDoc(t, s, doc, x)
	return x
}

// lookDoc looks that a document stands under a number, with its labels.
func lookDoc(t *testing.T, s *Shelf, doc int, x stem) {
	t.Helper()
	d, ok, e := s.Get(doc)
	if want := x.whole(); !ok || e != api.OK || !tree.Equal(d, want) {
		t.Fatalf("P20.1: Get(%d): %s, %v, %d, not %s", doc, brief(d), ok, e, brief(want))
	}
	l, e := s.Labels(doc)
	if !slices.EqualFunc(l, x.labels(), slices.Equal[[]int]) || e != api.OK {
		t.Fatalf("P20.3: Labels(%d): %s, %d, not %s", doc, brief(l), e, brief(x.labels()))
	}
	lookOrder(t, d, l)
}

// lookOrder looks that the labels of a document's nodes rise, and say how deep and in what each one stands.
func lookOrder(t *testing.T, d api.Node, l [][]int) {
	t.Helper()
	i, labels := 0, map[string][]int{}
	key := func(path []int) string { return string(slices.Concat([]byte{0}, octets(path))) }
	for path := range tree.All(d) {
		labels[key(path)] = l[i]
		if i > 0 && label.Compare(l[i-1], l[i]) != -1 {
			t.Fatalf("P20.3: %v ahead of %v", l[i-1], l[i])
		}
		if label.Level(l[i]) != len(path) || label.Check(l[i]) != api.OK {
			t.Fatalf("P20.3: the label %v of the node at %v", l[i], path)
		}
		if len(path) > 0 && !slices.Equal(label.Up(l[i]), labels[key(path[:len(path)-1])]) {
			t.Fatalf("P20.3: the label %v of the node at %v", l[i], path)
		}
		i++
	}
}

// octets is a path as bytes.
func octets(path []int) []byte {
	var b []byte
	for _, k := range path {
		b = append(b, byte(k>>8), byte(k))
	}
	return b
}

// lookNone looks that no document stands under a number.
func lookNone(t *testing.T, s *Shelf, doc int) {
	t.Helper()
	if d, ok, e := s.Get(doc); ok || e != api.OK || !tree.Equal(d, api.Node{}) {
		t.Fatalf("P20.1: Get(%d): %s, %v, %d", doc, brief(d), ok, e)
	}
	if l, e := s.Labels(doc); len(l) != 0 || e != api.ErrNone {
		t.Fatalf("P20.3: Labels(%d): %v, %d", doc, l, e)
	}
	lookDrop(t, s, doc, false)
	if e := s.Edit(doc, edit.Edit{Op: edit.Delete, At: []int{0, 0}}); e != api.ErrNone {
		t.Fatalf("P20.2: Edit(%d): %d", doc, e)
	}
}

func lookDrop(t *testing.T, s *Shelf, doc int, want bool) {
	t.Helper()
	if ok, e := s.Drop(doc); ok != want || e != api.OK {
		t.Fatalf("P20.1: Drop(%d): %v, %d, not %v", doc, ok, e, want)
	}
}

// books is documents by their numbers.
type books map[int]stem

// lookWhole looks at all of a shelf; it answers its pages.
func lookWhole(t *testing.T, s *Shelf, m books) []int {
	t.Helper()
	docs, e := s.Docs()
	if want := slices.Sorted(maps.Keys(m)); !slices.Equal(docs, want) || e != api.OK {
		t.Fatalf("P20.1: Docs: %v, %d, not %v", docs, e, want)
	}
	nodes := 0
	for doc, x := range m {
		lookDoc(t, s, doc, x)
		nodes += len(x.labels())
	}
	if count := len(standing(t, s.nodes)); count > nodes {
		t.Fatalf("%d pairs of %d nodes", count, nodes)
	}
	return lookPages(t, s)
}

// lookPages looks that the pages of a shelf are those of its hedge and its gloss.
func lookPages(t *testing.T, s *Shelf) []int {
	t.Helper()
	nodes, e := s.nodes.Pages()
	Look(t, "hedge's Pages", e, api.OK)
	names, e := s.names.Pages()
	Look(t, "gloss's Pages", e, api.OK)
	want := slices.Sorted(slices.Values(slices.Concat(nodes, names)))
	pages, e := s.Pages()
	if !slices.Equal(pages, want) || e != api.OK {
		t.Fatalf("P20.1: Pages: %v, %d, not %v", pages, e, want)
	}
	return pages
}

// standing is the pairs of a hedge.
func standing(t *testing.T, h *hedge.Hedge) map[string]string {
	t.Helper()
	l, e := h.From(nil, math.MaxInt)
	Look(t, "hedge's From", e, api.OK)
	m := map[string]string{}
	for _, p := range l {
		m[string(p.Key)] = string(p.Value)
	}
	return m
}

// library is a shelf in a vault, with what should stand there.
type library struct {
	vault  *vault.Vault
	shelf  *Shelf
	now    books
	begun  books
	counts map[api.Errno]int
}

// begin begins a transaction.
func (x *library) begin(t *testing.T) {
	t.Helper()
	x.begun = maps.Clone(x.now)
	Look(t, "Begin", x.vault.Begin(), api.OK)
}

// restore is what an Abort, or a crash, makes of a library.
func (x *library) restore(t *testing.T) {
	t.Helper()
	nodes, names := x.shelf.Roots()
	x.shelf = at(t, x.vault, nodes, names)
	x.now = x.begun
	x.look(t)
}

// look looks at all of a library, and that no page is lost.
func (x *library) look(t *testing.T) {
	t.Helper()
	LookOwned(t, x.vault, lookWhole(t, x.shelf, x.now))
}

// told looks at what a call answered that the model takes for done; whether it is. For want of room it may be refused, and the transaction aborted.
func (x *library) told(t *testing.T, e api.Errno) bool {
	t.Helper()
	x.counts[e]++
	if e != api.ErrFull && e != api.ErrLimit {
		Look(t, "a call", e, api.OK)
		return true
	}
	if free := x.vault.Pages() - 1 - len(x.vault.Taken()); e == api.ErrFull && free > 30 {
		t.Fatalf("P6: ErrFull, where %d pages aren't taken", free)
	}
	Look(t, "Abort", x.vault.Abort(), api.OK)
	x.restore(t)
	x.begin(t)
	return false
}

// lookApart looks that no more pairs differ from what stood than those of so many nodes.
func (x *library) lookApart(t *testing.T, before map[string]string, most int) {
	t.Helper()
	if count := Apart(before, standing(t, x.shelf.nodes)); count > most {
		t.Fatalf("P20.2: %d pairs differ, more than %d", count, most)
	}
}

// put puts a drawn document.
func (x *library) put(t *testing.T, doc int, d api.Node) {
	t.Helper()
	before := standing(t, x.shelf.nodes)
	if !x.told(t, x.shelf.Put(doc, d)) {
		return
	}
	next := planted(nil, d)
	x.lookApart(t, before, len(next.labels())+len(x.now[doc].labels()))
	x.now[doc] = next
	lookDoc(t, x.shelf, doc, next)
}

// edit does a drawn edit.
func (x *library) edit(t *testing.T, doc int, e edit.Edit) {
	t.Helper()
	next, most, f := x.now[doc].edited(e)
	before, names := standing(t, x.shelf.nodes), x.shelf.names
	many, _ := names.Many()
	switch got := x.shelf.Edit(doc, e); {
	case f != api.OK:
		Look(t, "P20.2: Edit", got, f)
		x.counts[f]++
		x.lookApart(t, before, 0)
		if n, _ := names.Many(); n != many {
			t.Fatalf("P20.2: an Edit that is refused gives numbers to names")
		}
	case x.told(t, got):
		x.now[doc] = next
		x.lookApart(t, before, most)
	}
	if y, ok := x.now[doc]; ok {
		lookDoc(t, x.shelf, doc, y)
	}
}

// some is the number of a document that stands, if there is one.
func (x *library) some(dice *sample.Dice) (int, bool) {
	l := slices.Sorted(maps.Keys(x.now))
	if len(l) == 0 {
		return 0, false
	}
	return l[dice.Under(len(l))], true
}

// drawnDoc is a drawn number.
func drawnDoc(dice *sample.Dice) int {
	return []int{0, 1, 2, 255, 256, 65535, 1 << 16, 1 << 24, 1<<32 - 1, 1<<32 - 2}[dice.Under(10)]
}

// drawnDocument is a drawn document: sometimes one with many kids.
func drawnDocument(dice *sample.Dice) api.Node {
	if !dice.OneIn(3) {
		return dice.Document()
	}
	var kids []api.Node
	for range dice.Under(90) {
		text := sample.Text(strings.Repeat("t", 1+dice.Under(150)))
		kids = append(kids, sample.With(sample.In(dice.Of("", "u"), sample.Elem(dice.Of("p", "q"), text)), "", "r", dice.Text()), sample.Comment(""))
	}
	return sample.Doc(sample.Elem("many", kids...))
}

// step does one drawn thing.
func (x *library) step(t *testing.T, dice *sample.Dice) {
	t.Helper()
	doc, ok := x.some(dice)
	switch dice.Under(40) {
	default:
		if ok {
			x.edit(t, doc, DrawnEdit(dice, x.now[doc].whole()))
		}
	case 0, 1, 2, 3:
		x.put(t, drawnDoc(dice), drawnDocument(dice))
	case 4:
		doc := drawnDoc(dice)
		_, had := x.now[doc]
		if done, e := x.shelf.Drop(doc); x.told(t, e) {
			if done != had {
				t.Fatalf("P20.1: Drop(%d): %v, not %v", doc, done, had)
			}
			delete(x.now, doc)
			lookNone(t, x.shelf, doc)
		}
	case 5, 6, 7:
		if e := x.vault.Commit(); e == api.ErrFull {
			x.restore(t)
		} else {
			Look(t, "Commit", e, api.OK)
		}
		x.begin(t)
	case 8:
		Look(t, "Abort", x.vault.Abort(), api.OK)
		x.restore(t)
		x.begin(t)
	case 9:
		nodes, names := x.shelf.Roots()
		x.shelf = at(t, x.vault, nodes, names)
	case 10:
		x.look(t)
	}
}

// newLibrary is a shelf in a vault on a drum, committed; a transaction is open behind it.
func newLibrary(t *testing.T, d *drum.Drum, frames int, counts map[api.Errno]int) *library {
	t.Helper()
	x := &library{vault: Opened(t, d, frames), now: books{}, counts: counts}
	x.begin(t)
	x.shelf = made(t, x.vault)
	Look(t, "Commit", x.vault.Commit(), api.OK)
	x.begin(t)
	return x
}

// TestModel: shelves are what the model says, through commits, aborts, crashes and full vaults.
func TestModel(t *testing.T) {
	dice := sample.Dice(201)
	counts := map[api.Errno]int{}
	for range 10 {
		d := NewDrum(t, 300+dice.Under(900))
		x := newLibrary(t, d, 40+dice.Under(60), counts)
		for range 4 {
			for range 120 {
				x.step(t, &dice)
			}
			x.look(t)
			if !dice.OneIn(3) && x.vault.Commit() == api.OK {
				x.begun = x.now
			}
			Look(t, "Crash", d.Crash(nil), api.OK)
			x.vault = Opened(t, d, 40+dice.Under(60))
			x.restore(t)
			x.begin(t)
		}
	}
	for _, e := range []api.Errno{api.ErrFull, api.ErrArg, api.ErrPath, api.ErrKind, api.ErrNone, api.ErrText, api.ErrRoot, api.ErrName} {
		if counts[e] < 5 {
			t.Errorf("error %d came %d times", e, counts[e])
		}
	}
	if counts[api.OK] < 500 {
		t.Errorf("%d calls were done", counts[api.OK])
	}
}
