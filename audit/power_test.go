package audit

import (
	"testing"

	"lectern/api"
	"lectern/base"
	"lectern/drum"
	"lectern/rig"
	"lectern/sample"
	"lectern/tree"
)

// audited looks at a base that should hold these documents; it answers ErrSum, if its report is another one.
func audited(b *base.Base, m rig.Papers) api.Errno {
	r, e := Run(b)
	if e != api.OK {
		return e
	}
	want := Report{Docs: len(m), Pages: r.Pages}
	for _, d := range m {
		want.Nodes += tree.Size(d)
	}
	if !sameReport(r, want) {
		return api.ErrSum
	}
	return api.OK
}

// stands says whether these documents are what stands in a base, and whether Run finds nothing wrong with it.
func stands(b *base.Base, m rig.Papers) bool {
	for name, want := range m {
		if d, e := b.Tree(name); e != api.OK || !tree.Equal(d, want) {
			return false
		}
	}
	return audited(b, m) == api.OK
}

// TestP4: the power goes at each step, of a Run too: behind it all documents are right, and no page is lost.
func TestP4(t *testing.T) {
	open := func(d *drum.Drum) (*base.Base, api.Errno) { return base.Open(d, 24) }
	if cuts := rig.Paperwork(600, open, audited, stands).Cut(t); cuts < 200 {
		t.Errorf("%d Commits were cut", cuts)
	}
}

// site is a base on a drum whose power goes now and then; whoever works there doesn't ask what becomes of what is done.
type site struct {
	drum   *drum.Drum
	base   *base.Base
	counts map[api.Errno]int
	looks  int // that were answered
}

// told notes what a call was answered; whether the power is there.
func (x *site) told(e api.Errno) bool {
	x.counts[e]++
	return e != api.ErrDown
}

// look audits the base, and looks at the drum; whether the power is there.
func (x *site) look(t *testing.T) bool {
	t.Helper()
	r, e := Run(x.base)
	if e == api.ErrDown {
		lookNoRun(t, x.base, api.ErrDown)
		return false
	}
	v, _ := x.base.Shelf()
	if e != api.OK || r.Fault != "" || len(r.Lost) > 0 || r.Pages != len(v.Taken()) {
		t.Fatalf("P22.3: Run: %+v, %d", r, e)
	}
	c := lasting(t, x.drum)
	s, e := Look(c)
	if e != api.OK || s.Gen != v.Gen() || s.Groups != v.Groups() {
		t.Fatalf("P22.2: Look: %+v, %d; the vault has the generation %d, and %d groups", s, e, v.Gen(), v.Groups())
	}
	lookVault(t, c)
	x.looks++
	return true
}

// lasting is a drum that is the same, and has no fuse.
func lasting(t *testing.T, d *drum.Drum) *drum.Drum {
	t.Helper()
	c := d.Clone()
	rig.Look(t, "Fuse", c.Fuse(1<<40), api.OK)
	return c
}

// change does one drawn change of a drawn document.
func (x *site) change(dice *sample.Dice) api.Errno {
	name := rig.DrawnName(dice)
	switch dice.Under(8) {
	case 0, 1:
		_, e := x.base.Put(name, rig.DrawnText(dice))
		return e
	case 2:
		return x.base.Drop(name)
	}
	d, e := x.base.Tree(name)
	if e != api.OK {
		d = sample.Doc(sample.Elem("a"))
	}
	return x.base.Edit(name, rig.DrawnEdit(dice, d))
}

// checkpoint empties the log, if there is no transaction; behind that no group stands on it.
func (x *site) checkpoint(t *testing.T) api.Errno {
	t.Helper()
	e := x.base.Checkpoint()
	if e == api.OK {
		if s, e := Look(lasting(t, x.drum)); e != api.OK || s.Groups != 0 || len(s.Pages) > 0 {
			t.Fatalf("P22.3: behind a Checkpoint: %+v, %d", s, e)
		}
	}
	return e
}

// step does one drawn thing; whether the power is there.
func (x *site) step(t *testing.T, dice *sample.Dice) bool {
	t.Helper()
	switch dice.Under(40) {
	case 0, 1, 2, 3:
		return x.told(x.base.Commit())
	case 4:
		return x.told(x.base.Abort())
	case 5:
		return x.told(x.checkpoint(t))
	case 6, 7, 8:
		return x.look(t)
	case 9:
		if dice.OneIn(4) {
			rig.Look(t, "Fuse", x.drum.Fuse(dice.Under(1+dice.Under(400))), api.OK)
		}
		return true
	}
	if !x.base.Busy() {
		return x.told(x.base.Begin())
	}
	return x.told(x.change(dice))
}

// crash lets the power go, in openings too, and opens the base at last.
func (x *site) crash(t *testing.T, dice *sample.Dice) {
	t.Helper()
	rig.Crash(t, dice, x.drum, dice.Under(4))
	frames := 8 + dice.Under(80)
	for dice.OneIn(2) {
		rig.Look(t, "Fuse", x.drum.Fuse(dice.Under(x.drum.Sectors()/4)), api.OK)
		_, e := base.Open(x.drum, frames)
		x.told(e)
		rig.Crash(t, dice, x.drum, dice.Under(4))
	}
	lookVault(t, x.drum)
	x.base = opened(t, x.drum, frames)
	x.look(t)
	lookVault(t, x.drum)
}

// TestP22_3: behind every script, and behind every power cut, nothing is wrong, and nothing is lost.
func TestP22_3(t *testing.T) {
	dice := sample.Dice(223)
	counts := map[api.Errno]int{}
	looks, crashes := 0, 0
	for range 25 {
		d := rig.NewDrum(t, 256+dice.Under(1200))
		x := &site{drum: d, base: opened(t, d, 8+dice.Under(80)), counts: counts}
		for range 300 {
			if !x.step(t, &dice) || dice.OneIn(50) {
				crashes++
				x.crash(t, &dice)
			}
		}
		looks += x.looks
	}
	if looks < 500 || crashes < 100 {
		t.Errorf("%d looks, %d crashes", looks, crashes)
	}
	for _, e := range []api.Errno{api.ErrDown, api.ErrFull, api.ErrLimit, api.ErrState, api.ErrNone, api.ErrKind, api.ErrText, api.ErrTag, api.ErrSyntax} {
		if counts[e] < 3 {
			t.Errorf("error %d came %d times", e, counts[e])
		}
	}
	if counts[api.OK] < 1000 {
		t.Errorf("%d calls were done", counts[api.OK])
	}
}
