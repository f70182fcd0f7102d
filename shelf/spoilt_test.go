package shelf

import (
	"math"
	"slices"
	"strings"
	"testing"

	"lectern/api"
	"lectern/edit"
	"lectern/hedge"
	"lectern/label"
	. "lectern/rig"
	. "lectern/sample"
	"lectern/tree"
	"lectern/vault"
)

// Hedges that no shelf wrote: the calls end, and beside an error there is nothing.

// tried does all that can be done with a document of a shelf whose hedges are spoilt; it answers the errors of reading it.
func tried(t *testing.T, dice *Dice, s *Shelf, doc int) (get, labels api.Errno) {
	t.Helper()
	d, ok, get := s.Get(doc)
	if (get != api.OK || !ok) && (ok || !tree.Equal(d, api.Node{})) {
		t.Fatalf("Get(%d): %s, %v, %d", doc, brief(d), ok, get)
	}
	l, labels := s.Labels(doc)
	if (len(l) > 0) != (labels == api.OK) {
		t.Fatalf("Labels(%d): %v, %d", doc, l, labels)
	}
	for range 3 {
		e := DrawnEdit(dice, d)
		if dice.OneIn(4) {
			e = edit.Edit{Op: 1 + dice.Under(6), At: []int{0, 0}, Node: Elem("x")}
		}
		s.Edit(doc, e)
	}
	if l, e := s.Docs(); e != api.OK && len(l) > 0 || !slices.IsSorted(l) {
		t.Fatalf("Docs: %v, %d", l, e)
	}
	if l, e := s.Pages(); e != api.OK && len(l) > 0 {
		t.Fatalf("Pages: %v, %d", l, e)
	}
	if dice.OneIn(2) {
		if ok, e := s.Drop(doc); e != api.OK && ok {
			t.Fatalf("Drop(%d): %v, %d", doc, ok, e)
		}
	}
	s.Put(doc, dice.Document())
	return get, labels
}

// drawnValue is a value as a shelf may write it, or nearly.
func drawnValue(dice *Dice, values []string) string {
	b := []byte(values[dice.Under(len(values))])
	switch dice.Under(4) {
	case 0:
		b = b[:dice.Under(len(b)+1)]
	case 1:
		for range 1 + dice.Under(3) {
			b[dice.Under(len(b))] = byte(dice.Under(256))
		}
	case 2:
		for range dice.Under(30) {
			b = append(b, byte(dice.Under(256)))
		}
	}
	return string(b)
}

// drawnKey is a key of the document 1, as a shelf may write it, or nearly.
func drawnKey(dice *Dice) []byte {
	var l []int
	for range dice.Under(4) {
		l = append(l, dice.Under(5))
	}
	b, _ := label.Bytes(l)
	if dice.OneIn(5) {
		b = append(b, byte(dice.Under(256)))
	}
	if dice.OneIn(30) {
		b = make([]byte, 124)
	}
	k := keyOf(1, b)
	if dice.OneIn(10) {
		k = k[:1+dice.Under(len(k))]
	}
	return k
}

// TestP1Spoilt: pairs of a shelf's hedge are turned, taken out, and put beside others.
func TestP1Spoilt(t *testing.T) {
	dice := Dice(205)
	gets, labels := map[api.Errno]int{}, map[api.Errno]int{}
	for range 60 {
		v := Begun(t, 8000, 900)
		s := made(t, v)
		put(t, s, 1, dice.Document())
		x := put(t, s, 2, dice.Document())
		var values []string
		for _, value := range standing(t, s.nodes) {
			values = append(values, value)
		}
		slices.Sort(values)
		Look(t, "Commit", v.Commit(), api.OK)
		for range 20 {
			Look(t, "Begin", v.Begin(), api.OK)
			l, e := s.rows(1)
			Look(t, "rows", e, api.OK)
			for range 1 + dice.Under(3) {
				k := l[dice.Under(len(l))].key
				if dice.OneIn(3) {
					k = drawnKey(&dice)
				}
				if dice.OneIn(3) {
					_, e = s.nodes.Delete(k)
				} else {
					e = s.nodes.Put(k, []byte(drawnValue(&dice, values)))
				}
				Look(t, "hedge's Put or Delete", e, api.OK)
			}
			get, label := tried(t, &dice, s, 1)
			gets[get]++
			labels[label]++
			lookDoc(t, s, 2, x)
			Look(t, "Abort", v.Abort(), api.OK)
		}
	}
	if gets[api.ErrForm] < 100 || gets[api.OK] < 100 || labels[api.ErrForm] < 20 {
		t.Errorf("Get: %v; Labels: %v", gets, labels)
	}
}

// TestP1Turned: a shelf whose two roots stand each in the other's place, and one whose roots are those of other hedges.
func TestP1Turned(t *testing.T) {
	dice := Dice(206)
	for range 20 {
		v := Begun(t, 8000, 900)
		s := made(t, v)
		for doc := range 5 {
			put(t, s, doc, dice.Document())
		}
		h, e := hedge.Make(v)
		Look(t, "hedge's Make", e, api.OK)
		for range 40 {
			Look(t, "hedge's Put", h.Put(drawnKey(&dice), []byte(dice.Text())), api.OK)
		}
		Look(t, "hedge's Put", h.Put(slices.Concat([]byte{0, 0, 0, 1}, make([]byte, 124)), nil), api.OK)
		for _, roots := range [][2]int{{2, 1}, {1, 1}, {2, 2}, {1, h.Root()}, {h.Root(), 2}, {h.Root(), h.Root()}} {
			Again(t, v)
			for _, doc := range []int{0, 1, 0x74610000, 1<<32 - 1} {
				tried(t, &dice, at(t, v, roots[0], roots[1]), doc)
			}
			Undo(t, v)
		}
	}
}

// laid is a shelf in whose hedge such pairs stand.
func laid(t *testing.T, v *vault.Vault, pairs ...string) *Shelf {
	t.Helper()
	s := made(t, v)
	for i := 0; i+1 < len(pairs); i += 2 {
		Look(t, "hedge's Put", s.nodes.Put([]byte(pairs[i]), []byte(pairs[i+1])), api.OK)
	}
	return s
}

// TestP20Forms: what no shelf wrote is ErrForm, or the like.
func TestP20Forms(t *testing.T) {
	v := Begun(t, 8000, 900)
	node := func(kind, count byte, rest string) string {
		return string([]byte{kind, 0, 0, 0, 0, 0, 0, 0, 0, count}) + rest
	}
	const doc = "\x00\x00\x00\x01"
	for i, s := range []*Shelf{
		laid(t, v, doc, ""),
		laid(t, v, doc, "\x01\x00\x00"),
		laid(t, v, doc, node(1, 1, "")),
		laid(t, v, doc, node(1, 0, ""), doc+"\xc0", node(2, 1, "\x00\x00\x00\x00\x00\x00\x00\x00\x00\x05abcd")),
		laid(t, v, doc, node(1, 0, ""), doc+"\xc0", "\x02\x00\x00\x00\x00\x00\x00\x00\x07\x00"), // no text has the number 7
		laid(t, v, doc+"\xc0", node(2, 0, "")),                      // an element without its document
		laid(t, v, doc, node(1, 0, ""), doc+"\x00", node(2, 0, "")), // no label has these bytes
	} {
		lookUnreadable := func() {
			t.Helper()
			if d, ok, e := s.Get(1); ok || e != api.ErrForm || !tree.Equal(d, api.Node{}) {
				t.Errorf("Get of shelf %d: %s, %v, %d", i, brief(d), ok, e)
			}
			Look(t, "Edit", s.Edit(1, edit.Edit{Op: edit.Write, At: []int{0}, Text: "w"}), api.ErrForm)
		}
		lookUnreadable()
	}
	s := laid(t, v, "a", "", strings.Repeat("b", 128), "")
	if l, e := s.Docs(); len(l) > 0 || e != api.ErrForm {
		t.Errorf("Docs: %v, %d", l, e)
	}
	lookNone(t, s, 1)
	// More nodes than a document may have.
	v = Begun(t, 16384, 1024)
	s = made(t, v)
	for i := range api.MaxNodes + 1 {
		b, _ := label.Bytes([]int{2*i + 1})
		Look(t, "hedge's Put", s.nodes.Put(keyOf(1, b), nil), api.OK)
	}
	if l, e := s.Labels(1); len(l) != api.MaxNodes+1 || e != api.OK {
		t.Errorf("Labels: %d, %d", len(l), e)
	}
	b, _ := label.Bytes([]int{math.MaxInt16})
	Look(t, "hedge's Put", s.nodes.Put(keyOf(1, b), nil), api.OK)
	lookUnread(t, s, 1, api.ErrForm)
}
