package base

import (
	"maps"
	"slices"
	"strings"
	"testing"

	"lectern/api"
	"lectern/canon"
	"lectern/drum"
	"lectern/edit"
	. "lectern/rig"
	. "lectern/sample"
	"lectern/tree"
)

// stands says whether these documents are what stands in a base, and nothing else does.
func stands(b *Base, m Papers) bool {
	names, e := b.Names()
	if e != api.OK || !slices.Equal(names, slices.Sorted(maps.Keys(m))) {
		return false
	}
	for name, d := range m {
		if got, e := b.Tree(name); e != api.OK || !tree.Equal(got, d) {
			return false
		}
	}
	v, _ := b.Shelf()
	l, e := b.Pages()
	return e == api.OK && slices.Equal(l, v.Taken())
}

// reading reads all that stands, in all ways; beside an error there is nothing.
func reading(b *Base, m Papers) api.Errno {
	names, e := b.Names()
	if e == api.OK && !slices.Equal(names, slices.Sorted(maps.Keys(m))) || e != api.OK && len(names) > 0 {
		return api.ErrSum
	}
	for _, name := range slices.Sorted(maps.Keys(m)) {
		want, _ := canon.Write(m[name])
		text, e := b.Export(name)
		if string(text) != string(want) && (e == api.OK || len(text) > 0) {
			return api.ErrSum
		}
		l, at, f := b.Pick(name, "//node()")
		if f == api.OK && len(l) != tree.Size(m[name])-1 || f != api.OK && len(l) > 0 || at != 0 {
			return api.ErrSum
		}
		if e != api.OK || f != api.OK {
			return api.ErrDown
		}
	}
	pages, e := b.Pages()
	if (len(pages) > 0) != (e == api.OK) {
		return api.ErrSum
	}
	return e
}

// paperwork is a script for a base on a new drum.
func paperwork(frames int) Script[*Base, Papers] {
	open := func(d *drum.Drum) (*Base, api.Errno) { return Open(d, frames) }
	return Paperwork(600, open, reading, stands)
}

// TestP21_4: the power goes at each step, in Open too: what an opening finds is what was committed, or that and what was cut.
func TestP21_4(t *testing.T) {
	for _, frames := range []int{24, 200} {
		if cuts := paperwork(frames).Cut(t); cuts < 200 {
			t.Errorf("%d Commits were cut", cuts)
		}
	}
}

// TestP21_4New: on a new drum an opening is cut again and again, at each of its steps.
func TestP21_4New(t *testing.T) {
	dice := Dice(213)
	for _, first := range []int{1, 2, 3, 7} {
		d := NewDrum(t, 256)
		fuse, cuts := first, 0
		for ; ; fuse += first {
			Look(t, "Fuse", d.Fuse(fuse), api.OK)
			b, e := Open(d, 8)
			if e == api.OK {
				break
			}
			if b != nil || e != api.ErrDown {
				t.Fatalf("P21.4: Open: %v, %d", b, e)
			}
			cuts++
			keep := make([]bool, d.Loose())
			for i := range keep {
				keep[i] = dice.OneIn(2)
			}
			Look(t, "Crash", d.Crash(keep), api.OK)
			c := d.Clone()
			if !stands(opened(t, c, 8), Papers{}) {
				t.Fatalf("P21.4: behind an opening that was cut at step %d there are documents", fuse)
			}
		}
		if cuts < 10 {
			t.Errorf("%d openings were cut", cuts)
		}
		Look(t, "Crash", d.Crash(nil), api.OK)
		lookNames(t, opened(t, d, 8))
	}
}

// four is a drum on which a base of four documents stands, with an empty log: so that opening it reads few of its pages.
func four(t *testing.T) (*drum.Drum, Papers) {
	t.Helper()
	d := NewDrum(t, 4000)
	b := opened(t, d, 512)
	m := Papers{}
	Look(t, "Begin", b.Begin(), api.OK)
	for i, name := range []string{"a", "b", "c", "d"} {
		Look(t, "Put", Putting[*Base](name, "<a>"+strings.Repeat("<b/>t", 8+9*i)+"</a>")(b, m), api.OK)
	}
	Look(t, "Commit", b.Commit(), api.OK)
	Look(t, "Checkpoint", b.Checkpoint(), api.OK)
	return d, m
}

// TestP4Reading: what is read while the power goes is right, or nothing beside ErrDown; and so are all calls behind it that need a page.
func TestP4Reading(t *testing.T) {
	d, m := four(t)
	downs := 0
	for fuse := 0; ; fuse += 3 {
		c := d.Clone()
		b := opened(t, c, 8)
		Look(t, "Fuse", c.Fuse(fuse), api.OK)
		e := reading(b, m)
		if e == api.OK {
			break
		}
		Look(t, "reading", e, api.ErrDown)
		downs++
		Look(t, "Crash", c.Crash(nil), api.OK)
		lookUnread(t, b, "a", api.ErrDown)
		lookUnread(t, b, "none", api.ErrDown)
		lookUnread(t, b, "1", api.ErrName)
		lookNoPick(t, b, "none", "/", 1, api.ErrQuery)
		lookNoLists(t, b, api.ErrDown)
		for _, do := range []func() api.Errno{b.Begin, b.Commit, b.Abort, b.Checkpoint} {
			Look(t, "a call behind ErrDown", do(), api.ErrDown)
		}
	}
	if downs < 50 {
		t.Errorf("%d times the power went", downs)
	}
}

// TestP4Writing: the power goes while documents are changed; behind that nothing can be changed, and nothing was.
func TestP4Writing(t *testing.T) {
	d, m := four(t)
	put, drop, change := Putting[*Base], Dropping[*Base], Editing[*Base]
	for i, do := range []Act[*Base]{put("a", "<new/>"), put("e", "<new/>"), drop("c"), change("d", edit.Edit{Op: edit.Delete, At: []int{0, 3}})} {
		downs := 0
		for fuse := 0; ; fuse += 3 {
			c := d.Clone()
			b := opened(t, c, 40)
			Look(t, "Begin", b.Begin(), api.OK)
			Look(t, "Fuse", c.Fuse(fuse), api.OK)
			e := do(b, maps.Clone(m))
			if e == api.OK {
				break
			}
			Look(t, "changing", e, api.ErrDown)
			downs++
			Look(t, "Crash", c.Crash(nil), api.OK)
			lookPut(t, b, "a", "<x/>", 0, api.ErrDown)
			lookPut(t, b, "none", "<x/>", 0, api.ErrDown)
			lookPut(t, b, "a", "<x>", 3, api.ErrTag)
			lookPut(t, b, "1", "<x>", 0, api.ErrName)
			lookNoEdit(t, b, "none", api.ErrDown)
			Look(t, "Drop", b.Drop("none"), api.ErrDown)
			Look(t, "Commit", b.Commit(), api.ErrDown)
			if !stands(opened(t, c, 40), m) {
				t.Fatalf("P21.4: behind act %d, cut at step %d, something else stands", i, fuse)
			}
		}
		if downs < 3 {
			t.Errorf("act %d was cut %d times", i, downs)
		}
	}
}

// TestP1Same: the same script leaves the same sectors, by as many steps.
func TestP1Same(t *testing.T) {
	drums := [2]*drum.Drum{NewDrum(t, 600), NewDrum(t, 600)}
	for _, d := range drums {
		b, m := opened(t, d, 24), Papers{}
		for i, do := range paperwork(24).Acts {
			Look(t, "Begin", b.Begin(), api.OK)
			next, e := do(b, m)
			if e != api.OK {
				t.Fatalf("transaction %d: %d", i, e)
			}
			Look(t, "Commit", b.Commit(), api.OK)
			m = next
		}
		lookPapers(t, b, m)
	}
	if drums[0].Steps() != drums[1].Steps() {
		t.Errorf("P1: %d steps, and %d", drums[0].Steps(), drums[1].Steps())
	}
	for n := range 600 {
		first, _ := drums[0].Read(n)
		second, e := drums[1].Read(n)
		if !slices.Equal(first, second) || e != api.OK {
			t.Fatalf("P1: sector %d is another one", n)
		}
	}
}
