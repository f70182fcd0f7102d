package audit

import (
	"slices"
	"strings"
	"testing"

	"lectern/api"
	"lectern/base"
	"lectern/drum"
	"lectern/forge"
	"lectern/rig"
	"lectern/sheet"
	"lectern/vault"
)

func sameSight(a, b Sight) bool {
	return same(a, b, func(s *Sight) []*[]int { return []*[]int{&s.Pages, &s.Taken} })
}

// seen is what Look tells of a drum, to which it does nothing but Reads.
func seen(t *testing.T, d *drum.Drum) (Sight, api.Errno) {
	t.Helper()
	if d == nil {
		return Look(d)
	}
	loose, before := d.Loose(), forge.Sectors(t, d)
	s, e := Look(d)
	if d.Loose() != loose || forge.Sectors(t, d) != before {
		t.Fatal("P22.2: Look writes, or flushes")
	}
	return s, e
}

func lookSight(t *testing.T, d *drum.Drum, want Sight) {
	t.Helper()
	if s, e := seen(t, d); !sameSight(s, want) || e != api.OK {
		t.Fatalf("P22.2: Look: %+v, %d, not %+v", s, e, want)
	}
}

func lookNoSight(t *testing.T, d *drum.Drum, want api.Errno) {
	t.Helper()
	if s, e := seen(t, d); !sameSight(s, Sight{}) || e != want {
		t.Fatalf("P22.2: Look: %+v, %d, not %d", s, e, want)
	}
}

// lookVault looks that what Look tells of a drum is what a vault's opening finds: its pages are taken, and those that it writes bear later stamps than the head's.
func lookVault(t *testing.T, d *drum.Drum) {
	t.Helper()
	s, e := seen(t, d)
	rig.Look(t, "Look", e, api.OK)
	c := d.Clone()
	v := rig.Opened(t, c, 4)
	head, e := sheet.GetHead(c)
	rig.Look(t, "sheet's GetHead", e, api.OK)
	want := Sight{Gen: head.Gen - 1, Stamp: s.Stamp, Groups: int(head.Stamp - s.Stamp), Taken: v.Taken()}
	for n := range v.Pages() {
		_, stamp, e := sheet.Get(c, n)
		rig.Look(t, "sheet's Get", e, api.OK)
		if stamp > s.Stamp {
			want.Pages = append(want.Pages, n)
		}
	}
	if !sameSight(s, want) {
		t.Fatalf("P22.2: Look: %+v; a vault's opening finds %+v", s, want)
	}
}

// TestP22_2Errors: drums that have no plan, and such without a head.
func TestP22_2Errors(t *testing.T) {
	lookNoSight(t, nil, api.ErrNil)
	for _, sectors := range []int{1, 2, 63} {
		lookNoSight(t, rig.NewDrum(t, sectors), api.ErrArg)
	}
	for _, sectors := range []int{64, 65, 256, api.MaxSectors} {
		d := rig.NewDrum(t, sectors)
		lookNoSight(t, d, api.ErrForm)
		forge.LayHead(t, d, 1, 0)
		lookSight(t, d, Sight{Gen: 1})
		forge.Turn(t, d, 1, 9)
		lookNoSight(t, d, api.ErrForm)
	}
	down := rig.NewDrum(t, 64)
	rig.Look(t, "Fuse", down.Fuse(0), api.OK)
	lookNoSight(t, down, api.ErrDown)
	small := rig.NewDrum(t, 63)
	rig.Look(t, "Fuse", small.Fuse(0), api.OK)
	lookNoSight(t, small, api.ErrArg)
}

// TestP22_2Heads: of two heads the one of the greater generation counts, up to the last one.
func TestP22_2Heads(t *testing.T) {
	const last = 1<<32 - 1
	for _, gens := range [][2]int{{1, 2}, {2, 1}, {7, 6}, {8, 17}, {last, last - 1}, {last - 1, last}} {
		d := rig.NewDrum(t, 100)
		for _, gen := range gens {
			forge.LayHead(t, d, gen, uint64(gen)<<32)
		}
		gen := max(gens[0], gens[1])
		lookSight(t, d, Sight{Gen: gen, Stamp: uint64(gen) << 32})
		forge.Turn(t, d, gen%2, 40)
		gen = min(gens[0], gens[1])
		lookSight(t, d, Sight{Gen: gen, Stamp: uint64(gen) << 32})
	}
}

// TestP22_2Groups: groups of the head's generation, and what stands in them; the last map among them counts.
func TestP22_2Groups(t *testing.T) {
	d := rig.NewDrum(t, 600)
	forge.LayPage(t, d, 0, 3, forge.MapOf(1, 2))
	forge.LayHead(t, d, 7, 41)
	lookSight(t, d, Sight{Gen: 7, Stamp: 41, Taken: []int{1, 2}})
	first := forge.GroupOf(2, 42, forge.PageOf(2, "two"), forge.PageOf(54, "last"))
	second := forge.GroupOf(3, 43, forge.PageOf(0, forge.MapOf(3, 54)), forge.PageOf(3, "three"), forge.PageOf(54, ""))
	third := forge.GroupOf(2, 44, forge.PageOf(0, forge.MapOf(1, 3, 55)), forge.PageOf(55, "last"))
	fourth := forge.GroupOf(1, 45, forge.PageOf(1, ""))
	for groups, want := range []Sight{
		{},
		{Groups: 1, Pages: []int{2, 54}, Taken: []int{1, 2}},
		{Groups: 2, Pages: []int{0, 2, 3, 54}, Taken: []int{3, 54}},
		{Groups: 3, Pages: []int{0, 2, 3, 54, 55}, Taken: []int{1, 3, 55}},
		{Groups: 4, Pages: []int{0, 1, 2, 3, 54, 55}, Taken: []int{1, 3, 55}},
	} {
		if groups == 0 {
			continue
		}
		c := d.Clone()
		want.Gen, want.Stamp = 7, 41
		forge.LayGroups(t, c, 7, [][]byte{first, second, third, fourth}[:groups]...)
		for _, gen := range []int{6, 8} { // what is of another generation doesn't stand
			lookSight(t, c, want)
			forge.LayGroups(t, c, gen)
		}
		lookVault(t, c)
		s, _ := Look(c)
		clear(s.Pages[:cap(s.Pages)])
		clear(s.Taken[:cap(s.Taken)])
		lookSight(t, c, want)
	}
	for _, gen := range []int{1, 6, 8, 1<<32 - 1} {
		c := d.Clone()
		forge.LayGroups(t, c, gen, first, second)
		lookSight(t, c, Sight{Gen: 7, Stamp: 41, Taken: []int{1, 2}})
	}
}

// TestP22_2FullLog: a group that takes the whole log.
func TestP22_2FullLog(t *testing.T) {
	d := rig.NewDrum(t, 88) // its log has 22 sectors
	forge.LayHead(t, d, 2, 0)
	forge.LayGroups(t, d, 2, forge.GroupOf(2, 1, forge.PageOf(0, forge.MapOf(7)), forge.PageOf(7, "")))
	lookSight(t, d, Sight{Gen: 2, Groups: 1, Pages: []int{0, 7}, Taken: []int{7}})
	lookVault(t, d)
}

// TestP22_2Logs: groups that no vault writes are refused just where a vault's opening refuses them.
func TestP22_2Logs(t *testing.T) {
	for i, l := range forge.Logs(t) {
		if !l.IsRight {
			lookNoSight(t, l.Drum, api.ErrForm)
			if _, e := vault.Open(l.Drum, 4); e != api.ErrForm {
				t.Errorf("P22.2: a vault's opening of the log %d: %d", i, e)
			}
			continue
		}
		if s, e := seen(t, l.Drum); s.Gen != 3 || s.Stamp != 5 || !slices.Equal(s.Taken, []int{1}) || e != api.OK {
			t.Errorf("P22.2: Look at the log %d: %+v, %d", i, s, e)
		}
	}
}

// TestP22_2Stamps: stamps at the end of the numbers, and the last generation, of which a vault isn't opened.
func TestP22_2Stamps(t *testing.T) {
	const last = 1<<32 - 1
	d := rig.NewDrum(t, 400)
	forge.LayHead(t, d, last, 1<<64-2)
	forge.LayGroups(t, d, last, forge.GroupOf(2, 1<<64-1, forge.PageOf(0, forge.MapOf(5)), forge.PageOf(5, "")))
	lookSight(t, d, Sight{Gen: last, Stamp: 1<<64 - 2, Groups: 1, Pages: []int{0, 5}, Taken: []int{5}})
}

// TestP22_2Map: page 0 counts, if no group has it; else it isn't even read.
func TestP22_2Map(t *testing.T) {
	for _, l := range []struct {
		spoil func(d *drum.Drum)
		want  api.Errno
	}{
		{func(d *drum.Drum) { forge.Turn(t, d, 27, 20) }, api.ErrSum},
		{func(d *drum.Drum) { forge.Turn(t, d, 34, 63) }, api.ErrSum},
		{func(d *drum.Drum) { // the page 1 in the place of page 0
			for i := range 8 {
				b, e := d.Read(35 + i)
				rig.Look(t, "drum's Read", e, api.OK)
				rig.Look(t, "drum's Write", d.Write(27+i, b), api.OK)
			}
		}, api.ErrForm},
	} {
		d := rig.NewDrum(t, 100)
		forge.LayPage(t, d, 0, 3, forge.MapOf(2))
		forge.LayPage(t, d, 1, 3, "one")
		forge.LayHead(t, d, 5, 3)
		lookSight(t, d, Sight{Gen: 5, Stamp: 3, Taken: []int{2}})
		l.spoil(d)
		lookNoSight(t, d, l.want)
		c := d.Clone()
		forge.LayGroups(t, c, 5, forge.GroupOf(1, 4, forge.PageOf(1, "one")))
		lookNoSight(t, c, l.want)
		forge.LayGroups(t, d, 5, forge.GroupOf(1, 4, forge.PageOf(0, forge.MapOf(1))), forge.GroupOf(1, 5, forge.PageOf(1, "one")))
		lookSight(t, d, Sight{Gen: 5, Stamp: 3, Groups: 2, Pages: []int{0, 1}, Taken: []int{1}})
	}
}

// TestP22_2OtherBits: bits of the map that are no page's, the map's own among them, mean nothing.
func TestP22_2OtherBits(t *testing.T) {
	d := rig.NewDrum(t, 100) // pages 0 to 8
	bits := forge.MapOf(0, 2, 8, 9, 10, 500, 3967)
	forge.LayPage(t, d, 0, 3, bits)
	forge.LayHead(t, d, 5, 3)
	lookSight(t, d, Sight{Gen: 5, Stamp: 3, Taken: []int{2, 8}})
	forge.LayGroups(t, d, 5, forge.GroupOf(1, 4, forge.PageOf(0, forge.MapOf(0, 9, 3960))))
	lookSight(t, d, Sight{Gen: 5, Stamp: 3, Groups: 1, Pages: []int{0}})
	whole := rig.NewDrum(t, api.MaxSectors)
	forge.LayPage(t, whole, 0, 3, strings.Repeat("\xff", api.PageSize))
	forge.LayHead(t, whole, 5, 3)
	lookVault(t, whole)
}

// TestP22_2Down: the power goes at each step of Look.
func TestP22_2Down(t *testing.T) {
	d, b := begun(t, "a", "<x><y/></x>")
	rig.Look(t, "Commit", b.Commit(), api.OK)
	rig.Look(t, "Checkpoint", b.Checkpoint(), api.OK)
	rig.Look(t, "Begin", b.Begin(), api.OK)
	rig.Look(t, "Drop", b.Drop("a"), api.OK)
	for range 2 {
		downs := 0
		for fuse := 0; ; fuse++ {
			c := d.Clone()
			rig.Look(t, "Fuse", c.Fuse(fuse), api.OK)
			s, e := Look(c)
			if e == api.OK {
				break
			}
			if !sameSight(s, Sight{}) || e != api.ErrDown || !c.Down() {
				t.Fatalf("P22.2: Look, cut at step %d: %+v, %d", fuse, s, e)
			}
			lookNoSight(t, c, api.ErrDown)
			downs++
		}
		if downs < 10 {
			t.Errorf("%d times the power went", downs)
		}
		rig.Look(t, "Commit", b.Commit(), api.OK) // now groups stand, and no map among them
		rig.Look(t, "Begin", b.Begin(), api.OK)
		puts(t, b, "a", "<x/>")
	}
}

// TestP22_2Base: what Look tells of a base's drum, from its making on.
func TestP22_2Base(t *testing.T) {
	d := rig.NewDrum(t, 800)
	b := opened(t, d, 100)
	v, _ := b.Shelf()
	lookStands := func(want Sight) {
		t.Helper()
		want.Taken = v.Taken()
		lookSight(t, d, want)
		lookVault(t, d)
	}
	lookStands(Sight{Gen: 1, Groups: 1, Pages: []int{0, 1, 2, 3}})
	rig.Look(t, "Begin", b.Begin(), api.OK)
	puts(t, b, "a", "<x/>")
	lookStands(Sight{Gen: 1, Groups: 1, Pages: []int{0, 1, 2, 3}})
	rig.Look(t, "Commit", b.Commit(), api.OK)
	lookStands(Sight{Gen: 1, Groups: 2, Pages: []int{0, 1, 2, 3}})
	rig.Look(t, "Checkpoint", b.Checkpoint(), api.OK)
	lookStands(Sight{Gen: 2, Stamp: 2})
	rig.Look(t, "Begin", b.Begin(), api.OK)
	puts(t, b, "a", "<y/>")
	rig.Look(t, "Commit", b.Commit(), api.OK)
	lookStands(Sight{Gen: 2, Stamp: 2, Groups: 1, Pages: []int{2, 3}})
	rig.Look(t, "Crash", d.Crash(nil), api.OK)
	lookStands(Sight{Gen: 2, Stamp: 2, Groups: 1, Pages: []int{2, 3}})
	b, e := base.Open(d, 8)
	rig.Look(t, "base's Open", e, api.OK)
	v, _ = b.Shelf()
	lookStands(Sight{Gen: 3, Stamp: 3})
}
