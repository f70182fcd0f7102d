package vault

import (
	"math"
	"slices"
	"testing"

	"lectern/api"
	"lectern/drum"
	"lectern/sheet"
	"lectern/tape"
)

// laidHead writes a head, and lets it stand.
func laidHead(t *testing.T, d *drum.Drum, gen int, stamp uint64) {
	t.Helper()
	look(t, "PutHead", sheet.PutHead(d, sheet.Head{Gen: gen, Stamp: stamp}), api.OK)
	look(t, "Flush", d.Flush(), api.OK)
}

// laidGroups writes groups of a generation, and lets them stand.
func laidGroups(t *testing.T, d *drum.Drum, gen int, groups ...[]byte) {
	t.Helper()
	log, _, e := tape.Open(d, 2, 2+d.Sectors()/4, gen)
	look(t, "tape's Open", e, api.OK)
	for _, g := range groups {
		look(t, "Append", log.Append(g), api.OK)
	}
	look(t, "Flush", d.Flush(), api.OK)
}

// laidPage writes a page, and lets it stand.
func laidPage(t *testing.T, d *drum.Drum, n int, stamp uint64, p string) {
	t.Helper()
	look(t, "sheet's Put", sheet.Put(d, n, stamp, []byte(p)), api.OK)
	look(t, "Flush", d.Flush(), api.OK)
}

// turned turns a byte on a drum, and lets that stand.
func turned(t *testing.T, d *drum.Drum, sector, at int) {
	t.Helper()
	b, e := d.Read(sector)
	look(t, "drum's Read", e, api.OK)
	b[at] ^= 0x40
	look(t, "drum's Write", d.Write(sector, b), api.OK)
	look(t, "Flush", d.Flush(), api.OK)
}

// mapOf is the map where these pages are taken.
func mapOf(pages ...int) string {
	s := state{}
	for _, n := range pages {
		s[n] = ""
	}
	return modelMap(s)
}

// TestP17_1Errors: what an opening is refused for ahead of all steps.
func TestP17_1Errors(t *testing.T) {
	for _, on := range []bool{true, false} {
		for _, sectors := range []int{1, 2, 63, 64, 16384} {
			d := newDrum(t, sectors)
			if !on {
				look(t, "Fuse", d.Fuse(0), api.OK)
				look(t, "Flush", d.Flush(), api.ErrDown)
			}
			for _, frames := range []int{0, 1, 3, -1, 1025, 4096, math.MinInt, math.MaxInt} {
				lookNoOpen(t, d, frames, api.ErrArg)
			}
			switch {
			case sectors < 64:
				lookNoOpen(t, d, 4, api.ErrArg)
			case !on:
				lookNoOpen(t, d, 4, api.ErrDown)
			default:
				opened(t, d, 4)
				opened(t, d, 1024)
			}
		}
	}
}

// TestP17_1New: a new drum gets a head, and nothing else.
func TestP17_1New(t *testing.T) {
	for _, sectors := range []int{64, 65, 71, 72, 100, 16384} {
		d, c := newDrum(t, sectors), newDrum(t, sectors)
		v := opened(t, d, 4)
		lookTaken(t, v)
		lookNumbers(t, v, 1, 0, false)
		look(t, "PutHead", sheet.PutHead(c, sheet.Head{Gen: 1}), api.OK)
		if d.Loose() != 0 || image(t, d) != image(t, c) {
			t.Errorf("P17.1: %d loose Writes on a new drum of %d sectors, or it isn't just the head", d.Loose(), sectors)
		}
		if want := (sectors - 2 - sectors/4) / 8; v.Pages() != want {
			t.Errorf("P17.4: Pages: %d, not %d", v.Pages(), want)
		}
		v = opened(t, d, 4)
		lookTaken(t, v)
		lookNumbers(t, v, 2, 0, false)
	}
}

// TestP17_1NoHead: where no head is right it hangs on page 0, whatever stands on the other sectors.
func TestP17_1NoHead(t *testing.T) {
	for sector := range 100 {
		for _, at := range []int{0, 5, 63} {
			d := newDrum(t, 100)
			turned(t, d, sector, at)
			if sector >= 27 && sector < 35 {
				lookNoOpen(t, d, 4, api.ErrForm)
			} else {
				v := opened(t, d, 4)
				lookTaken(t, v)
				lookNumbers(t, v, 1, 0, false)
			}
		}
	}
	d := newDrum(t, 100)
	laidPage(t, d, 0, 0, "") // its sum isn't 0
	lookNoOpen(t, d, 4, api.ErrForm)

	d = newDrum(t, 100)
	allocated(t, d, 4, 1)
	turned(t, d, 1, 9)
	lookNoOpen(t, d, 4, api.ErrForm)
}

// TestP17_1Groups: the groups of the head's generation are done, in order; all that is written is what the chapter says.
func TestP17_1Groups(t *testing.T) {
	d := newDrum(t, 600)
	laidPage(t, d, 0, 3, mapOf(1, 2))
	laidPage(t, d, 1, 3, "one")
	laidPage(t, d, 2, 9, "two")
	laidHead(t, d, 7, 41)
	laidHead(t, d, 6, 30)
	laidGroups(t, d, 7, modelGroup(3, 42, part{0, mapOf(1, 2, 3)}, part{2, "TWO"}, part{3, "x"}), modelGroup(1, 43, part{3, "three"}), modelGroup(2, 44, part{0, mapOf(1, 3, 55)}, part{55, "last"}))
	c := d.Clone()
	v := opened(t, d, 4) // fewer frames than a group has pages
	lookTaken(t, v, 1, 3, 55)
	lookGet(t, v, 1, "one")
	lookGet(t, v, 3, "three")
	lookGet(t, v, 55, "last")
	lookNoGet(t, v, 2, api.ErrArg)
	lookNumbers(t, v, 8, 0, false)
	laidPage(t, c, 0, 44, mapOf(1, 3, 55))
	laidPage(t, c, 2, 42, "TWO")
	laidPage(t, c, 3, 43, "three")
	laidPage(t, c, 55, 44, "last")
	laidHead(t, c, 8, 44)
	if d.Loose() != 0 || image(t, d) != image(t, c) {
		t.Errorf("P17.1: %d loose, or something else is written", d.Loose())
	}
	laidHead(t, c, 9, 44) // the next opening has nothing to do again
	v = opened(t, d, 4)
	lookTaken(t, v, 1, 3, 55)
	if d.Loose() != 0 || image(t, d) != image(t, c) {
		t.Errorf("P17.1: %d loose, or something else is written", d.Loose())
	}
	look(t, "Begin", v.Begin(), api.OK)
	look(t, "Put", v.Put(1, nil), api.OK)
	look(t, "Commit", v.Commit(), api.OK)
	if _, stamp, e := sheet.Get(d, 1); stamp != 45 || e != api.OK {
		t.Errorf("P17.3: the stamp behind 44: %d, %d", stamp, e)
	}
}

// TestP17_1BadGroups: groups that no vault writes; nothing is done then, and nothing written.
func TestP17_1BadGroups(t *testing.T) {
	good := modelGroup(1, 6, part{1, "good"})
	base := newDrum(t, 400) // pages 0 to 36
	laidPage(t, base, 0, 5, mapOf(1))
	laidPage(t, base, 1, 5, "one")
	laidHead(t, base, 3, 5)
	for i, l := range []struct {
		groups [][]byte
		want   api.Errno
	}{
		{[][]byte{good}, api.OK},
		{[][]byte{modelGroup(1, 6, part{36, ""})}, api.OK},
		{[][]byte{modelGroup(2, 6, part{0, mapOf(1)}, part{36, ""})}, api.OK},
		{[][]byte{good, modelGroup(1, 7, part{1, "more"})}, api.OK},
		{[][]byte{nil}, api.ErrForm},
		{[][]byte{{0}}, api.ErrForm},
		{[][]byte{{0, 1}}, api.ErrForm},
		{[][]byte{good[:9]}, api.ErrForm},
		{[][]byte{good[:10]}, api.ErrForm},
		{[][]byte{good[:509]}, api.ErrForm},
		{[][]byte{append(slices.Clone(good), 0)}, api.ErrForm},
		{[][]byte{modelGroup(0, 6)}, api.ErrForm},
		{[][]byte{modelGroup(0, 6, part{1, ""})}, api.ErrForm},
		{[][]byte{modelGroup(2, 6, part{1, ""})}, api.ErrForm},
		{[][]byte{modelGroup(1, 6, part{1, ""}, part{2, ""})}, api.ErrForm},
		{[][]byte{modelGroup(65535, 6, part{1, ""})}, api.ErrForm},
		{[][]byte{modelGroup(1, 6, part{37, ""})}, api.ErrForm},
		{[][]byte{modelGroup(1, 6, part{1<<32 - 1, ""})}, api.ErrForm},
		{[][]byte{modelGroup(2, 6, part{1, ""}, part{37, ""})}, api.ErrForm},
		{[][]byte{modelGroup(2, 6, part{2, ""}, part{1, ""})}, api.ErrForm},
		{[][]byte{modelGroup(2, 6, part{1, ""}, part{1, ""})}, api.ErrForm},
		{[][]byte{modelGroup(1, 5, part{1, ""})}, api.ErrForm},
		{[][]byte{modelGroup(1, 7, part{1, ""})}, api.ErrForm},
		{[][]byte{modelGroup(1, 6|1<<63, part{1, ""})}, api.ErrForm},
		{[][]byte{good, modelGroup(1, 6, part{1, ""})}, api.ErrForm},
		{[][]byte{good, modelGroup(1, 8, part{1, ""})}, api.ErrForm},
		{[][]byte{good, good[:20]}, api.ErrForm},
		{[][]byte{good, modelGroup(1, 7, part{37, ""})}, api.ErrForm},
	} {
		d := base.Clone()
		laidGroups(t, d, 3, l.groups...)
		if l.want != api.OK {
			lookNoOpen(t, d, 4, l.want)
			continue
		}
		v := opened(t, d, 4)
		if v.Gen() != 4 || d.Loose() != 0 {
			t.Errorf("P17.1: %d: the generation %d, %d loose", i, v.Gen(), d.Loose())
		}
	}
}

// TestP17_1OtherGenerations: groups of other generations than the head's don't stand.
func TestP17_1OtherGenerations(t *testing.T) {
	for _, gen := range []int{1, 2, 4, 5, 1<<32 - 1} {
		d := newDrum(t, 100)
		laidHead(t, d, 3, 0)
		laidGroups(t, d, gen, modelGroup(1, 1, part{0, mapOf(1)}))
		v := opened(t, d, 4)
		lookTaken(t, v)
	}
}

// TestP17_1Limit: the last generation; what it refuses writes nothing.
func TestP17_1Limit(t *testing.T) {
	const last = 1<<32 - 1
	d := newDrum(t, 100)
	laidHead(t, d, last, 7)
	lookNoOpen(t, d, 4, api.ErrLimit)
	laidPage(t, d, 0, 3, mapOf(1))
	turned(t, d, 27, 20)
	lookNoOpen(t, d, 4, api.ErrLimit)
	c := d.Clone()
	laidGroups(t, c, last, modelGroup(1, 8, part{0, mapOf(1)}))
	lookNoOpen(t, c, 4, api.ErrLimit)
	laidGroups(t, d, last, modelGroup(1, 7, part{0, mapOf(1)}))
	lookNoOpen(t, d, 4, api.ErrForm)

	d = newDrum(t, 100)
	laidHead(t, d, last-1, 7)
	v := opened(t, d, 4)
	lookNumbers(t, v, last, 0, false)
	steps := d.Steps()
	look(t, "Checkpoint of the last generation", v.Checkpoint(), api.ErrLimit)
	if d.Steps() != steps {
		t.Errorf("P17.4: a Checkpoint that is refused does %d steps", d.Steps()-steps)
	}
	look(t, "Begin", v.Begin(), api.OK)
	lookAlloc(t, v, 1)
	look(t, "Commit that has room", v.Commit(), api.OK)
	look(t, "Begin", v.Begin(), api.OK)
	lookAlloc(t, v, 2)
	look(t, "Commit that needs the next generation", v.Commit(), api.ErrLimit)
	lookTaken(t, v, 1)
	lookNumbers(t, v, last, 1, false)
}

// TestP17_1Map: errors of page 0, and groups that mend it.
func TestP17_1Map(t *testing.T) {
	for _, l := range []struct {
		lay  func(d *drum.Drum)
		want api.Errno
	}{
		{func(d *drum.Drum) { turned(t, d, 27, 20) }, api.ErrSum},
		{func(d *drum.Drum) { turned(t, d, 34, 63) }, api.ErrSum},
		{func(d *drum.Drum) {
			for i := range 8 { // the page 1 in the place of page 0
				b, e := d.Read(35 + i)
				look(t, "drum's Read", e, api.OK)
				look(t, "drum's Write", d.Write(27+i, b), api.OK)
			}
		}, api.ErrForm},
	} {
		d := newDrum(t, 100)
		laidPage(t, d, 0, 3, mapOf(2))
		laidPage(t, d, 1, 3, "one")
		laidHead(t, d, 5, 3)
		l.lay(d)
		lookNoOpen(t, d, 4, l.want)
		c := d.Clone()
		laidGroups(t, c, 5, modelGroup(1, 4, part{1, "one"}))
		lookNoOpen(t, c, 4, l.want)
		group := modelGroup(1, 4, part{0, mapOf(1)})
		for _, groups := range [][][]byte{{group}, {group, modelGroup(1, 5, part{1, "one"})}, {modelGroup(1, 4, part{1, "one"}), modelGroup(1, 5, part{0, mapOf(1)})}} {
			c := d.Clone()
			laidGroups(t, c, 5, groups...)
			v := opened(t, c, 4)
			lookTaken(t, v, 1)
			lookGet(t, v, 1, "one")
		}
	}
}

// TestP17_2OtherBits: bits of the map that are no page's, the map's own among them, mean nothing.
func TestP17_2OtherBits(t *testing.T) {
	d := newDrum(t, 100) // pages 0 to 8
	laidPage(t, d, 0, 3, mapOf(0, 2, 9, 10, 500, 3967))
	laidHead(t, d, 5, 3)
	v := opened(t, d, 4)
	look(t, "Begin", v.Begin(), api.OK)
	lookTaken(t, v, 2)
	for _, n := range []int{0, 9, 10, 500, 3967} {
		lookNoGet(t, v, n, api.ErrArg)
		look(t, "Put", v.Put(n, nil), api.ErrArg)
		look(t, "Free", v.Free(n), api.ErrArg)
	}
	lookAlloc(t, v, 1)
	lookAlloc(t, v, 3)
	lookTaken(t, v, 1, 2, 3)
}

// TestP17_2Torn: of a taken page that isn't right Get answers layer 15's error; the others are as they were, and a Put mends it.
func TestP17_2Torn(t *testing.T) {
	d := newDrum(t, 100)
	v := allocated(t, d, 4, 3)
	look(t, "Checkpoint", v.Checkpoint(), api.OK)
	turned(t, d, 27+8*2, 33)
	v = opened(t, d, 4)
	for range 2 {
		lookNoGet(t, v, 2, api.ErrSum)
		lookGet(t, v, 1, "\x01")
		lookGet(t, v, 3, "\x03")
	}
	look(t, "Begin", v.Begin(), api.OK)
	look(t, "Put", v.Put(2, []byte("b")), api.OK)
	lookGet(t, v, 2, "b")
	look(t, "Commit", v.Commit(), api.OK)
	lookGet(t, opened(t, d, 4), 2, "b")
}

// TestP17_1Steps: a log that is full of groups, small ones and great ones.
func TestP17_1Steps(t *testing.T) {
	for _, pages := range []int{1, 2, 3, 10, 40, 90} {
		d := newDrum(t, 4000)
		v := opened(t, d, 1024)
		for i := 0; v.Gen() == 1; i++ {
			look(t, "Begin", v.Begin(), api.OK)
			for k := range pages {
				n := 1 + (i*pages+k)%200
				if !slices.Contains(v.Taken(), n) {
					_, e := v.Alloc()
					look(t, "Alloc", e, api.OK)
				}
				look(t, "Put", v.Put(n, row(400)), api.OK)
			}
			c := d.Clone()
			look(t, "Commit", v.Commit(), api.OK)
			if v.Gen() == 2 {
				look(t, "Crash", c.Crash(nil), api.OK)
				opened(t, c, 4) // looks at its steps
			}
		}
	}
}
