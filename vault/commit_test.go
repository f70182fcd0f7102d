package vault

import (
	"slices"
	"testing"

	"lectern/api"
	"lectern/drum"
	. "lectern/forge"
	"lectern/sheet"
	"lectern/tape"
)

// lookLog looks which groups stand on the log of a drum.
func lookLog(t *testing.T, d *drum.Drum, gen int, want ...[]byte) {
	t.Helper()
	_, l, e := tape.Open(d.Clone(), 2, 2+d.Sectors()/4, gen)
	if e != api.OK || !slices.EqualFunc(l, want, slices.Equal) {
		t.Fatalf("P17.3: on the log stand %d groups of %x, not %x", len(l), l, want)
	}
}

// lookPage looks what stands in a page of a drum.
func lookPage(t *testing.T, d *drum.Drum, n int, stamp uint64, want string) {
	t.Helper()
	if p, s, e := sheet.Get(d.Clone(), n); string(p) != Whole(want) || s != stamp || e != api.OK {
		t.Fatalf("P17.3: page %d: %q, %d, %d, not %q, %d", n, p, s, e, want, stamp)
	}
}

// TestP17_3Groups: which pages are changed, by what is done with them.
func TestP17_3Groups(t *testing.T) {
	d := NewDrum(t, 800)
	v := opened(t, d, 16)
	var groups [][]byte
	var stamp uint64
	commit := func(parts ...Part) {
		t.Helper()
		Look(t, "Commit", v.Commit(), api.OK)
		if len(parts) > 0 {
			stamp++
			groups = append(groups, GroupOf(len(parts), stamp, parts...))
		}
		lookLog(t, d, 1, groups...)
		for _, l := range parts {
			lookPage(t, d, l.N, stamp, l.P)
		}
		lookNumbers(t, v, 1, len(groups), false)
		Look(t, "Begin", v.Begin(), api.OK)
	}
	put := func(n int, p string) {
		t.Helper()
		Look(t, "Put", v.Put(n, []byte(p)), api.OK)
	}
	free := func(n int) {
		t.Helper()
		Look(t, "Free", v.Free(n), api.OK)
	}
	Look(t, "Begin", v.Begin(), api.OK)
	commit()
	lookAlloc(t, v, 1)
	lookAlloc(t, v, 2)
	put(2, "b")
	commit(PageOf(0, MapOf(1, 2)), PageOf(1, ""), PageOf(2, "b"))
	put(2, "bb")
	put(1, "a")
	commit(PageOf(1, "a"), PageOf(2, "bb"))
	put(1, "a") // the same bytes
	commit(PageOf(1, "a"))
	free(1)
	commit(PageOf(0, MapOf(2)))
	lookAlloc(t, v, 1) // and nothing of it stays
	free(1)
	commit(PageOf(0, MapOf(2)))
	put(2, "x")
	free(2)
	commit(PageOf(0, MapOf()))
	lookAlloc(t, v, 1)
	lookAlloc(t, v, 2)
	free(1)
	commit(PageOf(0, MapOf(2)), PageOf(2, ""))
	put(2, "y")
	free(2)
	lookAlloc(t, v, 1)
	lookAlloc(t, v, 2)
	commit(PageOf(0, MapOf(1, 2)), PageOf(1, ""), PageOf(2, ""))
	put(1, "no")
	Look(t, "Abort", v.Abort(), api.OK)
	Look(t, "Begin", v.Begin(), api.OK)
	commit()
}

// TestP17_3Nothing: without changed pages nothing is written, nor is anything flushed.
func TestP17_3Nothing(t *testing.T) {
	d := NewDrum(t, 100)
	v := allocated(t, d, 4, 2)
	loose, before := d.Loose(), Sectors(t, d)
	Look(t, "Begin", v.Begin(), api.OK)
	lookGet(t, v, 1, "\x01")
	Look(t, "Commit", v.Commit(), api.OK)
	if d.Loose() != loose || Sectors(t, d) != before {
		t.Errorf("P17.3: a Commit without changed pages writes")
	}
	lookNumbers(t, v, 2, 1, false)
	Look(t, "Commit", v.Commit(), api.ErrState)
}

// TestP17_3Order: the group stands ahead of the first page that is written; the pages are loose.
func TestP17_3Order(t *testing.T) {
	d := NewDrum(t, 400)
	v := allocated(t, d, 8, 2)
	Look(t, "Checkpoint", v.Checkpoint(), api.OK)
	Look(t, "Begin", v.Begin(), api.OK)
	Look(t, "Put", v.Put(2, []byte("B")), api.OK)
	Look(t, "Put", v.Put(1, []byte("A")), api.OK)
	Look(t, "Commit", v.Commit(), api.OK)
	if d.Loose() != 16 {
		t.Fatalf("P17.3: %d loose Writes behind a Commit of two pages", d.Loose())
	}
	for kept := range 17 {
		c := crashed(t, d, bits(1<<kept-1, 16))
		lookLog(t, c, 2, GroupOf(2, 3, PageOf(1, "A"), PageOf(2, "B")))
		if kept == 0 {
			lookPage(t, c, 1, 1, "\x01")
		}
		if kept >= 8 {
			lookPage(t, c, 1, 3, "A")
		}
		if kept <= 8 {
			lookPage(t, c, 2, 2, "\x02")
		}
		if kept == 16 {
			lookPage(t, c, 2, 3, "B")
		}
	}
}

// TestP17_3Full: a group that the log has no room for at all; one that just fits.
func TestP17_3Full(t *testing.T) {
	// A group of two pages takes 22 sectors, one of three 32.
	for _, l := range []struct {
		sectors, pages int
		want           api.Errno
	}{{87, 1, api.ErrFull}, {88, 1, api.OK}, {127, 2, api.ErrFull}, {128, 2, api.OK}, {64, 1, api.ErrFull}} {
		d := NewDrum(t, l.sectors)
		v := opened(t, d, 8)
		before := Sectors(t, d)
		Look(t, "Begin", v.Begin(), api.OK)
		for n := range l.pages {
			lookAlloc(t, v, 1+n)
		}
		Look(t, "P17.3: Commit", v.Commit(), l.want)
		lookNumbers(t, v, 1, v.Groups(), false)
		if l.want == api.OK {
			continue
		}
		if d.Loose() != 0 || Sectors(t, d) != before || v.Groups() != 0 {
			t.Errorf("P17.3: a Commit that is ErrFull writes")
		}
		lookTaken(t, v)
		lookNoGet(t, v, 1, api.ErrArg)
		Look(t, "Commit", v.Commit(), api.ErrState)
		Look(t, "Begin", v.Begin(), api.OK)
		Look(t, "Commit", v.Commit(), api.OK)
	}
}

// TestP17_3FullBehind: an ErrFull leaves what was committed, and a log that isn't empty, as they are.
func TestP17_3FullBehind(t *testing.T) {
	d := NewDrum(t, 100)
	v := allocated(t, d, 8, 3)
	before, loose := Sectors(t, d), d.Loose()
	Look(t, "Begin", v.Begin(), api.OK)
	for n := 1; n <= 3; n++ {
		Look(t, "Put", v.Put(n, []byte("x")), api.OK)
	}
	Look(t, "Commit", v.Commit(), api.ErrFull)
	if d.Loose() != loose || Sectors(t, d) != before {
		t.Errorf("P17.3: a Commit that is ErrFull writes")
	}
	lookNumbers(t, v, 3, 1, false)
	for _, v := range []*Vault{v, opened(t, crashed(t, d, nil), 8)} {
		for n := 1; n <= 3; n++ {
			lookGet(t, v, n, string([]byte{byte(n)}))
		}
	}
}

// TestP17_3Room: a Commit makes a checkpoint just if its group takes more sectors than are free.
func TestP17_3Room(t *testing.T) {
	for _, l := range []struct{ sectors, groups int }{{88, 2}, {172, 3}, {176, 4}, {219, 4}, {220, 5}} { // the first takes 22 sectors, each other 11
		d := NewDrum(t, l.sectors)
		v := allocated(t, d, 4, 1)
		for i := 2; i <= 6; i++ {
			Look(t, "Begin", v.Begin(), api.OK)
			Look(t, "Put", v.Put(1, []byte{byte(i)}), api.OK)
			Look(t, "Commit", v.Commit(), api.OK)
			if i < l.groups {
				lookNumbers(t, v, 1, i, false)
				continue
			}
			lookNumbers(t, v, 2, 1, false)
			if h, e := sheet.GetHead(d.Clone()); h != (sheet.Head{Gen: 2, Stamp: uint64(i - 1)}) || e != api.OK {
				t.Errorf("P17.3: the head behind a Commit with a checkpoint: %v, %d", h, e)
			}
			if d.Loose() != 8 {
				t.Errorf("P17.3: %d loose Writes behind a Commit with a checkpoint", d.Loose())
			}
			break
		}
	}
}

// TestP17_4Checkpoint: what it writes, and what an opening behind it has to do.
func TestP17_4Checkpoint(t *testing.T) {
	for _, pages := range []int{0, 1, 5} {
		d := NewDrum(t, 2000)
		v := allocated(t, d, 8, pages)
		for gen := 2; gen < 5; gen++ {
			before, loose := d.Clone(), d.Loose()
			if pages > 0 && gen == 2 && loose != 16 {
				t.Errorf("P17.3: %d loose Writes behind the last Commit", loose)
			}
			Look(t, "Checkpoint", v.Checkpoint(), api.OK)
			lookNumbers(t, v, gen, 0, false)
			LayHead(t, before, gen, uint64(pages))
			if d.Loose() != 0 || Sectors(t, d) != Sectors(t, before) {
				t.Errorf("P17.4: Checkpoint leaves %d loose, or writes something else", d.Loose())
			}
			lookLog(t, d, gen)
			c := d.Clone()
			if gen == 3 {
				Look(t, "Crash", c.Crash(nil), api.OK)
			}
			steps := c.Steps()
			w := opened(t, c, 4)
			if c.Steps()-steps > 40 {
				t.Errorf("P17.4: an Open behind a Checkpoint does %d steps", c.Steps()-steps)
			}
			lookNumbers(t, w, gen+1, 0, false)
			for n := 1; n <= pages; n++ {
				lookGet(t, w, n, string([]byte{byte(n)}))
			}
		}
	}
}

// TestP17_4Gets: reading writes nothing, also where there are more pages than frames.
func TestP17_4Gets(t *testing.T) {
	d := NewDrum(t, 2000)
	v := allocated(t, d, 1024, 60)
	Look(t, "Checkpoint", v.Checkpoint(), api.OK)
	v = opened(t, d, 4)
	before := Sectors(t, d)
	for round := range 3 {
		for n := 1; n <= 60; n++ {
			lookGet(t, v, n, string([]byte{byte(n)}))
			lookGet(t, v, 1+(n*round)%60, string([]byte{byte(1 + (n*round)%60)}))
		}
	}
	if d.Loose() != 0 || Sectors(t, d) != before {
		t.Errorf("P17.5: Get writes")
	}
}
