package edit

import (
	"cmp"
	"slices"
	"testing"

	"lectern/api"
	"lectern/sample"
	"lectern/tree"
)

// The model makes a changed tree out of pieces of the old one, from the bottom up.

// remade is n with one list of kids instead of those of the node at a path.
func remade(n api.Node, path []int, kids func(l []api.Node) []api.Node) (api.Node, bool) {
	if len(path) == 0 {
		n.Kids = kids(n.Kids)
		return n, n.Kids != nil
	}
	if path[0] < 0 || path[0] >= len(n.Kids) {
		return n, false
	}
	kid, ok := remade(n.Kids[path[0]], path[1:], kids)
	n.Kids = slices.Concat(n.Kids[:path[0]], []api.Node{kid}, n.Kids[path[0]+1:])
	return n, ok
}

// modelOf is what an edit makes of one node: nothing, or another one.
func modelOf(n api.Node, e Edit) ([]api.Node, api.Errno) {
	others := slices.DeleteFunc(slices.Clone(n.Attrs), func(a api.Attr) bool { return a.Name == e.Name })
	switch {
	case e.Op == Delete:
		return nil, api.OK
	case e.Op == Replace:
		return []api.Node{e.Node}, api.OK
	case e.Op == Write && (n.Kind == api.Document || n.Kind == api.Element), e.Op != Write && n.Kind != api.Element:
		return nil, api.ErrKind
	case e.Op == Write:
		n.Text = e.Text
	case e.Op == Drop && len(others) == len(n.Attrs):
		return nil, api.ErrNone
	case e.Op == Drop:
		n.Attrs = others
	case e.Op == Set:
		n.Attrs = append(others, api.Attr{Name: e.Name, Value: e.Text})
		slices.SortFunc(n.Attrs, func(a, b api.Attr) int {
			return cmp.Or(cmp.Compare(a.Name.URI, b.Name.URI), cmp.Compare(a.Name.Local, b.Name.Local))
		})
	}
	return []api.Node{n}, api.OK
}

func model(d api.Node, e Edit) (api.Node, api.Errno) {
	if f := tree.Check(d); f != api.OK {
		return api.Node{}, f
	}
	if e.Op < 1 || e.Op > 6 {
		return api.Node{}, api.ErrArg
	}
	if len(e.At) == 0 {
		return api.Node{}, api.ErrPath
	}
	f, last := api.OK, e.At[len(e.At)-1]
	out, ok := remade(d, e.At[:len(e.At)-1], func(l []api.Node) []api.Node {
		if last < 0 || last > len(l) || last == len(l) && e.Op != Insert {
			return nil
		}
		if e.Op == Insert {
			return slices.Concat([]api.Node{}, l[:last], []api.Node{e.Node}, l[last:])
		}
		var n []api.Node
		n, f = modelOf(l[last], e)
		return append(append(append([]api.Node{}, l[:last]...), n...), l[last+1:]...)
	})
	if !ok {
		return api.Node{}, api.ErrPath
	}
	if f == api.OK {
		f = tree.Check(out)
	}
	if f != api.OK {
		return api.Node{}, f
	}
	return out, api.OK
}

// drawEdit is an edit that is often one of d's nodes.
func drawEdit(dice *sample.Dice, d api.Node) Edit {
	var paths [][]int
	var names []api.Name
	for path, n := range tree.All(d) {
		paths = append(paths, path)
		for _, a := range n.Attrs {
			names = append(names, a.Name)
		}
	}
	e := Edit{Op: 1 + dice.Under(6), At: paths[dice.Under(len(paths))], Text: dice.Text(), Node: dice.Node()}
	e.Name = api.Name{URI: dice.Of("", "u", "v", "\xff"), Local: dice.Of("a", "b", "c", "", "xmlns")}
	if len(names) > 0 && dice.OneIn(2) {
		e.Name = names[dice.Under(len(names))]
	}
	switch dice.Under(8) {
	case 0:
		e.At = append(e.At, dice.Under(5)-1)
	case 1:
		if len(e.At) > 0 {
			e.At[dice.Under(len(e.At))] += dice.Under(5) - 2
		}
	case 2:
		e.Text = dice.Of("", "\x00", "--", "?>", "x")
	case 3:
		if dice.OneIn(8) {
			e.Op = dice.Under(20) - 10
		}
	}
	return e
}

// emptied is an edit without what its Op doesn't name.
func emptied(e Edit) Edit {
	kept := Edit{Op: e.Op, At: e.At}
	switch e.Op {
	case Insert, Replace:
		kept.Node = e.Node
	case Set:
		kept.Name, kept.Text = e.Name, e.Text
	case Drop:
		kept.Name = e.Name
	case Write:
		kept.Text = e.Text
	}
	return kept
}

func same(a, b Edit) bool {
	return a.Op == b.Op && slices.Equal(a.At, b.At) && a.Name == b.Name && a.Text == b.Text && tree.Equal(a.Node, b.Node)
}

// TestModel: what edits answer is what the model does, and they are undone by their Backs; documents are changed on and on.
func TestModel(t *testing.T) {
	dice := sample.Dice(6)
	errors, done := map[api.Errno]int{}, map[int]int{}
	for range 60 {
		d := dice.Document()
		for range 150 {
			e := drawEdit(&dice, d)
			keep, kept := tree.Copy(d), Edit{e.Op, slices.Clone(e.At), e.Name, e.Text, tree.Copy(e.Node)}
			out := lookModel(t, d, e)
			if !tree.Equal(d, keep) || !same(e, kept) {
				t.Fatalf("P9.3: what was handed in is another one: %+v", e)
			}
			_, f := Apply(d, e)
			errors[f]++
			if f == api.OK {
				done[e.Op]++
				d = out
			}
		}
	}
	for _, f := range []api.Errno{api.ErrArg, api.ErrPath, api.ErrKind, api.ErrNone, api.ErrDeep, api.ErrName, api.ErrChar, api.ErrText, api.ErrRoot} {
		if errors[f] < 10 {
			t.Errorf("error %d came %d times", f, errors[f])
		}
	}
	for op := Insert; op <= Write; op++ {
		if done[op] < 50 {
			t.Errorf("Op %d was done %d times", op, done[op])
		}
	}
}

func lookModel(t *testing.T, d api.Node, e Edit) api.Node {
	t.Helper()
	want, f := model(d, e)
	out, g := Apply(d, e)
	if f != g || !tree.Equal(out, want) {
		t.Fatalf("P9.1: Apply(%+v, %+v): %+v, %d, not %+v, %d", d, e, out, g, want, f)
	}
	back, g := Back(d, e)
	if g != f || !same(back, emptied(back)) || f != api.OK && !same(back, Edit{}) {
		t.Fatalf("P9.2: Back(%+v, %+v): %+v, %d, not %d", d, e, back, g, f)
	}
	if f != api.OK {
		return out
	}
	if !slices.Equal(back.At, e.At) || !undoes(back.Op, e.Op) {
		t.Fatalf("P9.2: Back(%+v, %+v): %+v", d, e, back)
	}
	if again, g := Apply(out, back); g != api.OK || !tree.Equal(again, d) {
		t.Fatalf("P9.2: %+v behind %+v: %+v, %d, not %+v", back, e, again, g, d)
	}
	// What undoes the undoing is the edit itself.
	if forth, g := Back(out, back); g != api.OK || !same(forth, emptied(e)) {
		t.Fatalf("P9.2: Back of %+v: %+v, %d, not %+v", back, forth, g, e)
	}
	return out
}

// undoes says whether an edit of one Op may be the Back of one of another.
func undoes(back, op int) bool {
	switch op {
	case Insert:
		return back == Delete
	case Delete:
		return back == Insert
	case Set:
		return back == Set || back == Drop
	case Drop:
		return back == Set
	}
	return back == op
}
