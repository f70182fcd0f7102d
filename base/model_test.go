package base

import (
	"bytes"
	"maps"
	"slices"
	"strings"
	"testing"

	"lectern/api"
	"lectern/canon"
	"lectern/drum"
	"lectern/edit"
	"lectern/parse"
	"lectern/pick"
	. "lectern/rig"
	"lectern/sample"
	"lectern/trail"
	"lectern/tree"
)

// lookPaper looks at a document.
func lookPaper(t *testing.T, b *Base, name string, d api.Node) {
	t.Helper()
	got, e := b.Tree(name)
	if e != api.OK || !tree.Equal(got, d) {
		t.Fatalf("P3: Tree(%s): %s, %d, not %s", name, brief(got), e, brief(d))
	}
	want, _ := canon.Write(d)
	if l, e := b.Export(name); e != api.OK || !bytes.Equal(l, want) {
		t.Fatalf("P21.3: Export(%s): %s, %d, not %s", name, brief(string(l)), e, brief(string(want)))
	}
}

// lookPapers looks at all of a base.
func lookPapers(t *testing.T, b *Base, m Papers) {
	t.Helper()
	lookNames(t, b, slices.Sorted(maps.Keys(m))...)
	for name, d := range m {
		lookPaper(t, b, name, d)
	}
	lookPages(t, b)
}

// desk is a base with what should stand in it.
type desk struct {
	drum   *drum.Drum
	base   *Base
	frames int
	now    Papers
	begun  Papers
	needed int // how many pages the transaction may have changed so far, at most
	counts map[api.Errno]int
}

// newDesk is a base on a new drum, in which a transaction is open.
func newDesk(t *testing.T, sectors, frames int, counts map[api.Errno]int) *desk {
	t.Helper()
	x := &desk{drum: NewDrum(t, sectors), frames: frames, begun: Papers{}, counts: counts}
	x.base = opened(t, x.drum, frames)
	x.restore(t)
	return x
}

// begin begins a transaction.
func (x *desk) begin(t *testing.T) {
	t.Helper()
	x.begun, x.needed = maps.Clone(x.now), 0
	Look(t, "Begin", x.base.Begin(), api.OK)
}

// restore is what becomes of a desk whose transaction is gone: all is as it was at Begin, and the next one begins.
func (x *desk) restore(t *testing.T) {
	t.Helper()
	x.now = x.begun
	if x.base.Busy() {
		t.Fatal("P6: a transaction is open")
	}
	lookPapers(t, x.base, x.now)
	x.begin(t)
}

// needs is how many pages may be changed at most by putting a document, or taking it away.
func needs(l ...api.Node) int {
	sum := 25
	for _, d := range l {
		text, _ := canon.Write(d)
		sum += (60*tree.Size(d) + len(text)) / 120
	}
	return sum
}

// told looks at what a change answered that is right, and may change so many pages; whether it is done.
func (x *desk) told(t *testing.T, e api.Errno, free, needs int) bool {
	t.Helper()
	x.counts[e]++
	x.needed += needs
	switch {
	case e == api.OK:
		return true
	case e == api.ErrFull && free > needs:
		t.Fatalf("P6: ErrFull, where %d pages aren't taken, and %d are needed", free, needs)
	case e == api.ErrLimit && x.needed < x.frames:
		t.Fatalf("P6: ErrLimit, where %d pages are changed at most", x.needed)
	case e != api.ErrFull && e != api.ErrLimit:
		t.Fatalf("P3: a change that is right: %d", e)
	}
	x.restore(t)
	return false
}

// refused looks that what a change is refused for is what it should be; behind ErrLimit the transaction is gone.
func (x *desk) refused(t *testing.T, e, want api.Errno) {
	t.Helper()
	Look(t, "P3: a change", e, want)
	x.counts[e]++
	if e == api.ErrLimit {
		x.restore(t)
	}
}

// free is how many pages aren't taken.
func (x *desk) free() int {
	v, _ := x.base.Shelf()
	return v.Pages() - 1 - len(v.Taken())
}

// put puts a drawn text.
func (x *desk) put(t *testing.T, name string, text []byte) {
	t.Helper()
	d, place, want := parse.Parse(text)
	if want == api.OK {
		_, want = canon.Write(d)
	}
	free := x.free()
	at, e := x.base.Put(name, text)
	if at != place {
		t.Fatalf("P21.2: Put(%s, %s): place %d, not %d", name, brief(string(text)), at, place)
	}
	if want != api.OK {
		x.refused(t, e, want)
	} else if x.told(t, e, free, needs(d, x.now[name])) {
		x.now[name] = d
	}
}

// edit does a drawn edit.
func (x *desk) edit(t *testing.T, name string, e edit.Edit) {
	t.Helper()
	d, ok := x.now[name]
	out, want := edit.Apply(d, e)
	if want == api.OK {
		_, want = canon.Write(out)
	}
	if !ok {
		want = api.ErrNone
	}
	free := x.free()
	got := x.base.Edit(name, e)
	if want != api.OK {
		x.refused(t, got, want)
	} else if x.told(t, got, free, needs(d, out)) {
		x.now[name] = out
	}
}

// drop takes a document away, if there is one.
func (x *desk) drop(t *testing.T, name string) {
	t.Helper()
	d, ok := x.now[name]
	free := x.free()
	e := x.base.Drop(name)
	if !ok {
		x.refused(t, e, api.ErrNone)
	} else if x.told(t, e, free, needs(d)) {
		delete(x.now, name)
	}
}

// reads reads a document in all ways.
func (x *desk) reads(t *testing.T, dice *sample.Dice, name string) {
	t.Helper()
	d, ok := x.now[name]
	if !ok {
		lookUnread(t, x.base, name, api.ErrNone)
		return
	}
	lookPaper(t, x.base, name, d)
	query := dice.Of("/", "//", "//", "") + dice.Of("*", "a", "b", "many", "text()", "node()", "comment()", "a{u}", "@*") + dice.Of("", "", "[2]", "[@b]", "[", "//*[1]", "/@*", "/@r", strings.Repeat("/*", 20))
	want, place, f := pick.Pick(d, query)
	l, at, e := x.base.Pick(name, query)
	if e != f || at != place || !slices.EqualFunc(l, want, func(a, b trail.Trail) bool { return trail.Compare(a, b) == 0 }) {
		t.Fatalf("P5: Pick(%s, %s): %s, %d, %d, not %s, %d, %d", name, query, brief(l), at, e, brief(want), place, f)
	}
	x.counts[e]++
}

// crash lets the power go, and opens the base anew.
func (x *desk) crash(t *testing.T, dice *sample.Dice) {
	t.Helper()
	keep := make([]bool, dice.Under(2000))
	for i := range keep {
		keep[i] = dice.OneIn(2)
	}
	Look(t, "Crash", x.drum.Crash(keep), api.OK)
	x.frames = 40 + dice.Under(80)
	x.base = opened(t, x.drum, x.frames)
	x.restore(t)
}

// name is a drawn name, mostly one that stands.
func (x *desk) name(dice *sample.Dice) string {
	if l := slices.Sorted(maps.Keys(x.now)); len(l) > 0 && !dice.OneIn(8) {
		return l[dice.Under(len(l))]
	}
	return DrawnName(dice)
}

// step does one drawn thing.
func (x *desk) step(t *testing.T, dice *sample.Dice) {
	t.Helper()
	name := x.name(dice)
	switch dice.Under(30) {
	default:
		x.edit(t, name, DrawnEdit(dice, x.now[name]))
	case 0, 1, 2, 3:
		x.put(t, DrawnName(dice), DrawnText(dice))
	case 4:
		x.drop(t, name)
	case 5, 6, 7, 8:
		x.reads(t, dice, name)
	case 9, 10:
		if e := x.base.Commit(); e == api.ErrFull {
			x.restore(t)
			break
		} else {
			Look(t, "Commit", e, api.OK)
		}
		if dice.OneIn(3) {
			Look(t, "Checkpoint", x.base.Checkpoint(), api.OK)
		}
		x.begin(t)
	case 11:
		Look(t, "Abort", x.base.Abort(), api.OK)
		x.restore(t)
	case 12:
		if dice.OneIn(5) {
			x.crash(t, dice)
		}
	}
}

// TestModel: bases are what the model says, through commits, aborts, crashes and full drums.
func TestModel(t *testing.T) {
	dice := sample.Dice(212)
	counts := map[api.Errno]int{}
	for range 20 {
		x := newDesk(t, 256+dice.Under(700), 30+dice.Under(80), counts)
		for range 400 {
			x.step(t, &dice)
		}
		lookPapers(t, x.base, x.now)
	}
	for _, e := range []api.Errno{api.ErrFull, api.ErrLimit, api.ErrArg, api.ErrPath, api.ErrKind, api.ErrNone, api.ErrText, api.ErrRoot, api.ErrName, api.ErrTag, api.ErrSyntax, api.ErrQuery} {
		if counts[e] < 3 {
			t.Errorf("error %d came %d times", e, counts[e])
		}
	}
	if counts[api.OK] < 1000 {
		t.Errorf("%d calls were done", counts[api.OK])
	}
}
