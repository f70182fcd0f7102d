package vault

import (
	"math"
	"slices"
	"testing"

	"lectern/api"
	"lectern/drum"
	. "lectern/forge"
	"lectern/sheet"
)

// TestP17_1Errors: what an opening is refused for ahead of all steps.
func TestP17_1Errors(t *testing.T) {
	for _, on := range []bool{true, false} {
		for _, sectors := range []int{1, 2, 63, 64, 16384} {
			d := NewDrum(t, sectors)
			if !on {
				Look(t, "Fuse", d.Fuse(0), api.OK)
				Look(t, "Flush", d.Flush(), api.ErrDown)
			}
			for _, frames := range []int{0, 1, 3, -1, 1025, 4096, math.MinInt, math.MaxInt} {
				lookNoOpen(t, d, frames, api.ErrArg)
			}
			switch {
			case sectors < 64:
				lookNoOpen(t, d, 4, api.ErrArg)
			case !on:
				lookNoOpen(t, d, 4, api.ErrDown)
			default:
				opened(t, d, 4)
				opened(t, d, 1024)
			}
		}
	}
}

// TestP17_1New: a new drum gets a head, and nothing else.
func TestP17_1New(t *testing.T) {
	for _, sectors := range []int{64, 65, 71, 72, 100, 16384} {
		d, c := NewDrum(t, sectors), NewDrum(t, sectors)
		v := opened(t, d, 4)
		lookTaken(t, v)
		lookNumbers(t, v, 1, 0, false)
		Look(t, "PutHead", sheet.PutHead(c, sheet.Head{Gen: 1}), api.OK)
		if d.Loose() != 0 || Sectors(t, d) != Sectors(t, c) {
			t.Errorf("P17.1: %d loose Writes on a new drum of %d sectors, or it isn't just the head", d.Loose(), sectors)
		}
		if want := (sectors - 2 - sectors/4) / 8; v.Pages() != want {
			t.Errorf("P17.4: Pages: %d, not %d", v.Pages(), want)
		}
		v = opened(t, d, 4)
		lookTaken(t, v)
		lookNumbers(t, v, 2, 0, false)
	}
}

// TestP17_1NoHead: where no head is right it hangs on page 0, whatever stands on the other sectors.
func TestP17_1NoHead(t *testing.T) {
	for sector := range 100 {
		for _, at := range []int{0, 5, 63} {
			d := NewDrum(t, 100)
			Turn(t, d, sector, at)
			if sector >= 27 && sector < 35 {
				lookNoOpen(t, d, 4, api.ErrForm)
			} else {
				v := opened(t, d, 4)
				lookTaken(t, v)
				lookNumbers(t, v, 1, 0, false)
			}
		}
	}
	d := NewDrum(t, 100)
	LayPage(t, d, 0, 0, "") // its sum isn't 0
	lookNoOpen(t, d, 4, api.ErrForm)

	d = NewDrum(t, 100)
	allocated(t, d, 4, 1)
	Turn(t, d, 1, 9)
	lookNoOpen(t, d, 4, api.ErrForm)
}

// TestP17_1Groups: the groups of the head's generation are done, in order; all that is written is what the chapter says.
func TestP17_1Groups(t *testing.T) {
	d := NewDrum(t, 600)
	LayPage(t, d, 0, 3, MapOf(1, 2))
	LayPage(t, d, 1, 3, "one")
	LayPage(t, d, 2, 9, "two")
	LayHead(t, d, 7, 41)
	LayHead(t, d, 6, 30)
	LayGroups(t, d, 7, GroupOf(3, 42, PageOf(0, MapOf(1, 2, 3)), PageOf(2, "TWO"), PageOf(3, "x")), GroupOf(1, 43, PageOf(3, "three")), GroupOf(2, 44, PageOf(0, MapOf(1, 3, 55)), PageOf(55, "last")))
	c := d.Clone()
	v := opened(t, d, 4) // fewer frames than a group has pages
	lookTaken(t, v, 1, 3, 55)
	lookGet(t, v, 1, "one")
	lookGet(t, v, 3, "three")
	lookGet(t, v, 55, "last")
	lookNoGet(t, v, 2, api.ErrArg)
	lookNumbers(t, v, 8, 0, false)
	LayPage(t, c, 0, 44, MapOf(1, 3, 55))
	LayPage(t, c, 2, 42, "TWO")
	LayPage(t, c, 3, 43, "three")
	LayPage(t, c, 55, 44, "last")
	LayHead(t, c, 8, 44)
	if d.Loose() != 0 || Sectors(t, d) != Sectors(t, c) {
		t.Errorf("P17.1: %d loose, or something else is written", d.Loose())
	}
	LayHead(t, c, 9, 44) // the next opening has nothing to do again
	v = opened(t, d, 4)
	lookTaken(t, v, 1, 3, 55)
	if d.Loose() != 0 || Sectors(t, d) != Sectors(t, c) {
		t.Errorf("P17.1: %d loose, or something else is written", d.Loose())
	}
	Look(t, "Begin", v.Begin(), api.OK)
	Look(t, "Put", v.Put(1, nil), api.OK)
	Look(t, "Commit", v.Commit(), api.OK)
	if _, stamp, e := sheet.Get(d, 1); stamp != 45 || e != api.OK {
		t.Errorf("P17.3: the stamp behind 44: %d, %d", stamp, e)
	}
}

// TestP17_1BadGroups: groups that no vault writes; nothing is done then, and nothing written.
func TestP17_1BadGroups(t *testing.T) {
	for i, l := range Logs(t) {
		if !l.IsRight {
			lookNoOpen(t, l.Drum, 4, api.ErrForm)
			continue
		}
		v := opened(t, l.Drum, 4)
		if v.Gen() != 4 || l.Drum.Loose() != 0 {
			t.Errorf("P17.1: %d: the generation %d, %d loose", i, v.Gen(), l.Drum.Loose())
		}
	}
}

// TestP17_1OtherGenerations: groups of other generations than the head's don't stand.
func TestP17_1OtherGenerations(t *testing.T) {
	for _, gen := range []int{1, 2, 4, 5, 1<<32 - 1} {
		d := NewDrum(t, 100)
		LayHead(t, d, 3, 0)
		LayGroups(t, d, gen, GroupOf(1, 1, PageOf(0, MapOf(1))))
		v := opened(t, d, 4)
		lookTaken(t, v)
	}
}

// TestP17_1Limit: the last generation; what it refuses writes nothing.
func TestP17_1Limit(t *testing.T) {
	const last = 1<<32 - 1
	d := NewDrum(t, 100)
	LayHead(t, d, last, 7)
	lookNoOpen(t, d, 4, api.ErrLimit)
	LayPage(t, d, 0, 3, MapOf(1))
	Turn(t, d, 27, 20)
	lookNoOpen(t, d, 4, api.ErrLimit)
	c := d.Clone()
	LayGroups(t, c, last, GroupOf(1, 8, PageOf(0, MapOf(1))))
	lookNoOpen(t, c, 4, api.ErrLimit)
	LayGroups(t, d, last, GroupOf(1, 7, PageOf(0, MapOf(1))))
	lookNoOpen(t, d, 4, api.ErrForm)

	d = NewDrum(t, 100)
	LayHead(t, d, last-1, 7)
	v := opened(t, d, 4)
	lookNumbers(t, v, last, 0, false)
	steps := d.Steps()
	Look(t, "Checkpoint of the last generation", v.Checkpoint(), api.ErrLimit)
	if d.Steps() != steps {
		t.Errorf("P17.4: a Checkpoint that is refused does %d steps", d.Steps()-steps)
	}
	Look(t, "Begin", v.Begin(), api.OK)
	lookAlloc(t, v, 1)
	Look(t, "Commit that has room", v.Commit(), api.OK)
	Look(t, "Begin", v.Begin(), api.OK)
	lookAlloc(t, v, 2)
	Look(t, "Commit that needs the next generation", v.Commit(), api.ErrLimit)
	lookTaken(t, v, 1)
	lookNumbers(t, v, last, 1, false)
}

// TestP17_1Map: errors of page 0, and groups that mend it.
func TestP17_1Map(t *testing.T) {
	for _, l := range []struct {
		lay  func(d *drum.Drum)
		want api.Errno
	}{
		{func(d *drum.Drum) { Turn(t, d, 27, 20) }, api.ErrSum},
		{func(d *drum.Drum) { Turn(t, d, 34, 63) }, api.ErrSum},
		{func(d *drum.Drum) {
			for i := range 8 { // the page 1 in the place of page 0
				b, e := d.Read(35 + i)
				Look(t, "drum's Read", e, api.OK)
				Look(t, "drum's Write", d.Write(27+i, b), api.OK)
			}
		}, api.ErrForm},
	} {
		d := NewDrum(t, 100)
		LayPage(t, d, 0, 3, MapOf(2))
		LayPage(t, d, 1, 3, "one")
		LayHead(t, d, 5, 3)
		l.lay(d)
		lookNoOpen(t, d, 4, l.want)
		c := d.Clone()
		LayGroups(t, c, 5, GroupOf(1, 4, PageOf(1, "one")))
		lookNoOpen(t, c, 4, l.want)
		group := GroupOf(1, 4, PageOf(0, MapOf(1)))
		for _, groups := range [][][]byte{{group}, {group, GroupOf(1, 5, PageOf(1, "one"))}, {GroupOf(1, 4, PageOf(1, "one")), GroupOf(1, 5, PageOf(0, MapOf(1)))}} {
			c := d.Clone()
			LayGroups(t, c, 5, groups...)
			v := opened(t, c, 4)
			lookTaken(t, v, 1)
			lookGet(t, v, 1, "one")
		}
	}
}

// TestP17_2OtherBits: bits of the map that are no page's, the map's own among them, mean nothing.
func TestP17_2OtherBits(t *testing.T) {
	d := NewDrum(t, 100) // pages 0 to 8
	LayPage(t, d, 0, 3, MapOf(0, 2, 9, 10, 500, 3967))
	LayHead(t, d, 5, 3)
	v := opened(t, d, 4)
	Look(t, "Begin", v.Begin(), api.OK)
	lookTaken(t, v, 2)
	for _, n := range []int{0, 9, 10, 500, 3967} {
		lookNoGet(t, v, n, api.ErrArg)
		Look(t, "Put", v.Put(n, nil), api.ErrArg)
		Look(t, "Free", v.Free(n), api.ErrArg)
	}
	lookAlloc(t, v, 1)
	lookAlloc(t, v, 3)
	lookTaken(t, v, 1, 2, 3)
}

// TestP17_2Torn: of a taken page that isn't right Get answers layer 15's error; the others are as they were, and a Put mends it.
func TestP17_2Torn(t *testing.T) {
	d := NewDrum(t, 100)
	v := allocated(t, d, 4, 3)
	Look(t, "Checkpoint", v.Checkpoint(), api.OK)
	Turn(t, d, 27+8*2, 33)
	v = opened(t, d, 4)
	for range 2 {
		lookNoGet(t, v, 2, api.ErrSum)
		lookGet(t, v, 1, "\x01")
		lookGet(t, v, 3, "\x03")
	}
	Look(t, "Begin", v.Begin(), api.OK)
	Look(t, "Put", v.Put(2, []byte("b")), api.OK)
	lookGet(t, v, 2, "b")
	Look(t, "Commit", v.Commit(), api.OK)
	lookGet(t, opened(t, d, 4), 2, "b")
}

// TestP17_1Steps: a log that is full of groups, small ones and great ones.
func TestP17_1Steps(t *testing.T) {
	for _, pages := range []int{1, 2, 3, 10, 40, 90} {
		d := NewDrum(t, 4000)
		v := opened(t, d, 1024)
		for i := 0; v.Gen() == 1; i++ {
			Look(t, "Begin", v.Begin(), api.OK)
			for k := range pages {
				n := 1 + (i*pages+k)%200
				if !slices.Contains(v.Taken(), n) {
					_, e := v.Alloc()
					Look(t, "Alloc", e, api.OK)
				}
				Look(t, "Put", v.Put(n, row(400)), api.OK)
			}
			c := d.Clone()
			Look(t, "Commit", v.Commit(), api.OK)
			if v.Gen() == 2 {
				Look(t, "Crash", c.Crash(nil), api.OK)
				opened(t, c, 4) // looks at its steps
			}
		}
	}
}
