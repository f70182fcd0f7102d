package sheet

import (
	"bytes"
	"math"
	"slices"
	"testing"

	"lectern/api"
	"lectern/drum"
	"lectern/sample"
)

func lookGet(t *testing.T, d *drum.Drum, n int, want []byte, wantStamp uint64) {
	t.Helper()
	if p, stamp, e := Get(d, n); !bytes.Equal(p, want) || stamp != wantStamp || e != api.OK {
		t.Errorf("P15.4: Get(%d): %x, %d, %d, not %x, %d", n, p, stamp, e, want, wantStamp)
	}
}

func lookNoGet(t *testing.T, d *drum.Drum, n int, want api.Errno) {
	t.Helper()
	if p, stamp, e := Get(d, n); len(p) != 0 || stamp != 0 || e != want {
		t.Errorf("P15.4: Get(%d): %x, %d, %d, not %d", n, p, stamp, e, want)
	}
}

func lookNewest(t *testing.T, d *drum.Drum, want Head) {
	t.Helper()
	if h, e := GetHead(d); h != want || e != api.OK {
		t.Errorf("P15.4: GetHead: %v, %d, not %v", h, e, want)
	}
}

func lookNoNewest(t *testing.T, d *drum.Drum, want api.Errno) {
	t.Helper()
	if h, e := GetHead(d); h != (Head{}) || e != want {
		t.Errorf("P15.4: GetHead: %v, %d, not %d", h, e, want)
	}
}

// TestP15_4Errors: which error is asked first; what is refused is no step.
func TestP15_4Errors(t *testing.T) {
	for _, n := range []int{0, -1, 99} {
		look(t, "Put on no drum", Put(nil, n, 1, row(497)), api.ErrNil)
		look(t, "PutHead on no drum", PutHead(nil, Head{Gen: n}), api.ErrNil)
		lookNoGet(t, nil, n, api.ErrNil)
	}
	lookNoNewest(t, nil, api.ErrNil)
	for _, sectors := range []int{1, 2, 10, 63} {
		d := newDrum(t, sectors, 0)
		look(t, "Put on a small drum", Put(d, 0, 1, nil), api.ErrArg)
		look(t, "Put of too much on a small drum", Put(d, 0, 1, row(497)), api.ErrArg)
		look(t, "PutHead on a small drum", PutHead(d, Head{Gen: 1}), api.ErrArg)
		lookNoGet(t, d, 0, api.ErrArg)
		lookNoNewest(t, d, api.ErrArg)
		if d.Steps() != 1 {
			t.Errorf("P15.4: %d steps on a drum without a plan", d.Steps()-1)
		}
	}
	for _, on := range []bool{true, false} {
		d := newDrum(t, 100, 0)
		if !on {
			look(t, "Fuse", d.Fuse(0), api.OK)
			look(t, "Flush", d.Flush(), api.ErrDown)
		}
		for _, n := range []int{-1, 9, 10, 100, 1 << 32, math.MinInt, math.MaxInt, math.MaxInt / 8, math.MinInt / 8} {
			look(t, "Put of no page", Put(d, n, 1, nil), api.ErrArg)
			look(t, "Put of no page and too much", Put(d, n, 1, row(497)), api.ErrArg)
			lookNoGet(t, d, n, api.ErrArg)
		}
		look(t, "Put of too much", Put(d, 8, 1, row(497)), api.ErrLong)
		look(t, "Put of far too much", Put(d, 0, 1, row(100000)), api.ErrLong)
		for _, gen := range []int{0, -1, 1 << 32, math.MinInt, math.MaxInt} {
			look(t, "PutHead of no generation", PutHead(d, Head{Gen: gen}), api.ErrArg)
		}
		if d.Steps() != 1 || d.Loose() != 0 {
			t.Errorf("P15.4: what is refused does %d steps", d.Steps()-1)
		}
		if !on {
			look(t, "Put without power", Put(d, 8, 1, row(496)), api.ErrDown)
			look(t, "PutHead without power", PutHead(d, Head{Gen: 1}), api.ErrDown)
			lookNoGet(t, d, 0, api.ErrDown)
			lookNoNewest(t, d, api.ErrDown)
		}
	}
}

// TestP15_4Places: each page has sectors of its own, and a Put writes just these.
func TestP15_4Places(t *testing.T) {
	for _, sectors := range []int{64, 65, 66, 71, 100, 333} {
		d, plan := newDrum(t, sectors, 0xdd), modelPlan(sectors)
		want := bytes.Repeat([]byte{0xdd}, 64*sectors)
		for n := range plan.Pages {
			steps := d.Steps()
			look(t, "P15.4: Put", Put(d, n, uint64(n+1), row(496-n)), api.OK)
			if d.Steps() != steps+8 {
				t.Errorf("P15.4: Put does %d steps", d.Steps()-steps)
			}
			copy(want[64*(plan.Base+8*n):], modelPage(n, uint64(n+1), row(496-n)))
			if !bytes.Equal(sectorsOn(t, d, 0, sectors), want) {
				t.Fatalf("P15.4: Put of the page %d on %d sectors", n, sectors)
			}
		}
		look(t, "Put behind the last page", Put(d, plan.Pages, 1, nil), api.ErrArg)
		if d.Loose() != 8*plan.Pages {
			t.Errorf("P15.4: %d loose behind Puts of %d pages", d.Loose(), plan.Pages)
		}
		for n := range plan.Pages {
			steps := d.Steps()
			lookGet(t, d, n, whole(row(496-n)), uint64(n+1))
			if d.Steps() != steps+8 || d.Loose() != 8*plan.Pages {
				t.Errorf("P15.4: Get does %d steps, %d loose", d.Steps()-steps, d.Loose())
			}
		}
		lookNoGet(t, d, plan.Pages, api.ErrArg)
	}
	d := newDrum(t, 16384, 0)
	look(t, "Put of the last page of all", Put(d, 1534, math.MaxUint64, row(496)), api.OK)
	if got := sectorsOn(t, d, 4098+8*1534, 4098+8*1535); !bytes.Equal(got, modelPage(1534, math.MaxUint64, row(496))) {
		t.Errorf("P15.4: the last page of all: %x", got)
	}
	lookGet(t, d, 1534, row(496), math.MaxUint64)
}

// TestP15_4Get: what Get answers is what Take answers of the sectors.
func TestP15_4Get(t *testing.T) {
	d := newDrum(t, 64, 0)
	for n := range 5 {
		lookGet(t, d, n, make([]byte, 496), 0)
	}
	look(t, "Put", Put(d, 2, 8, []byte("two")), api.OK)
	look(t, "Put", Put(d, 2, 9, nil), api.OK)
	lookGet(t, d, 2, make([]byte, 496), 9)
	for i := range 8 {
		page := modelPage(3, 5, row(496))
		write(t, d, 18+8*4+i, page[64*i:64*i+64])
	}
	lookNoGet(t, d, 4, api.ErrForm)
	for i := range 8 {
		page := modelPage(4, 5, row(496))
		write(t, d, 18+8*4+(i+1)%8, page[64*i:64*i+64])
	}
	lookNoGet(t, d, 4, api.ErrSum)
	for i := range 8 {
		look(t, "Put", Put(d, 1, 6, row(100)), api.OK)
		b := sectorsOn(t, d, 18+8+i, 18+8+i+1)
		b[63] ^= 0x10
		write(t, d, 18+8+i, b)
		lookNoGet(t, d, 1, api.ErrSum)
	}
	lookGet(t, d, 0, make([]byte, 496), 0)
	lookGet(t, d, 2, make([]byte, 496), 9)
}

// TestBlank: a page is blank just if all bytes of its sectors are 0; what refuses a Get refuses Blank.
func TestBlank(t *testing.T) {
	for at := range 512 {
		d := newDrum(t, 64, 0)
		lookBlank(t, d, 2, true, api.OK)
		b := make([]byte, 64)
		b[at%64] = 1
		write(t, d, 18+8*2+at/64, b)
		lookBlank(t, d, 1, true, api.OK)
		lookBlank(t, d, 2, false, api.OK)
		lookBlank(t, d, 3, true, api.OK)
		if d.Loose() != 1 {
			t.Fatalf("Blank writes")
		}
	}
	d := newDrum(t, 64, 0)
	look(t, "Put", Put(d, 0, 0, nil), api.OK)
	lookBlank(t, d, 0, false, api.OK)
	lookBlank(t, nil, 0, false, api.ErrNil)
	lookBlank(t, newDrum(t, 63, 0), 0, false, api.ErrArg)
	for _, n := range []int{-1, 5, math.MinInt, math.MaxInt} {
		lookBlank(t, d, n, false, api.ErrArg)
	}
	for fuse := range 8 {
		look(t, "Fuse", d.Fuse(fuse), api.OK)
		lookBlank(t, d, 1, false, api.ErrDown)
		look(t, "Crash", d.Crash(nil), api.OK)
	}
}

func lookBlank(t *testing.T, d *drum.Drum, n int, want bool, wantE api.Errno) {
	t.Helper()
	if is, e := Blank(d, n); is != want || e != wantE {
		t.Fatalf("Blank(%d): %v, %d, not %v, %d", n, is, e, want, wantE)
	}
}

// TestP15_4Down: the drum's ErrDown comes where it comes; the Writes ahead of it, in order, are done.
func TestP15_4Down(t *testing.T) {
	old, page := modelPage(2, 1, row(496)), modelPage(2, 7, row(300))
	for fuse := range 10 {
		d := newDrum(t, 64, 0)
		look(t, "Put", Put(d, 2, 1, row(496)), api.OK)
		look(t, "Flush", d.Flush(), api.OK)
		c := d.Clone()
		look(t, "Fuse", d.Fuse(fuse), api.OK)
		look(t, "Fuse", c.Fuse(fuse), api.OK)
		want := api.ErrDown
		if fuse >= 8 {
			want = api.OK
		}
		look(t, "P15.4: Put that is cut", Put(d, 2, 7, row(300)), want)
		done := min(fuse, 8)
		if d.Loose() != done || d.Down() != (fuse < 8) {
			t.Errorf("P15.4: Fuse(%d): %d Writes", fuse, d.Loose())
		}
		look(t, "Crash", d.Crash(slices.Repeat([]bool{true}, 8)), api.OK)
		if got := sectorsOn(t, d, 34, 42); !bytes.Equal(got, slices.Concat(page[:64*done], old[64*done:])) {
			t.Errorf("P15.4: Fuse(%d): %x", fuse, got)
		}
		if fuse < 8 {
			lookNoGet(t, c, 2, api.ErrDown)
		} else {
			lookGet(t, c, 2, row(496), 1)
		}
	}
	for fuse := range 3 {
		d := newDrum(t, 64, 0)
		look(t, "PutHead", PutHead(d, Head{3, 4}), api.OK)
		look(t, "Fuse", d.Fuse(fuse), api.OK)
		if fuse < 2 { // what was read first may be a head: beside an error it isn't told
			lookNoNewest(t, d, api.ErrDown)
		} else {
			lookNewest(t, d, Head{3, 4})
		}
		d = newDrum(t, 64, 0)
		look(t, "PutHead", PutHead(d, Head{4, 4}), api.OK)
		look(t, "Fuse", d.Fuse(min(fuse, 1)), api.OK)
		lookNoNewest(t, d, api.ErrDown)
	}
}

// TestP15_4PutHead: a head is written on one of two sectors, by its generation, and on no other.
func TestP15_4PutHead(t *testing.T) {
	for _, gen := range []int{1, 2, 3, 4, 255, 256, 1<<32 - 2, 1<<32 - 1} {
		d := newDrum(t, 70, 0xdd)
		want := bytes.Repeat([]byte{0xdd}, 64*70)
		copy(want[64*(gen%2):], modelHead("LECT", gen, 1<<63+5, ""))
		steps := d.Steps()
		look(t, "P15.4: PutHead", PutHead(d, Head{gen, 1<<63 + 5}), api.OK)
		if d.Steps() != steps+1 || d.Loose() != 1 {
			t.Errorf("P15.4: PutHead does %d steps, %d loose", d.Steps()-steps, d.Loose())
		}
		if got := sectorsOn(t, d, 0, 70); !bytes.Equal(got, want) {
			t.Errorf("P15.4: PutHead of the generation %d: %x", gen, got[:128])
		}
		lookNewest(t, d, Head{gen, 1<<63 + 5})
		if d.Steps() != steps+3 || d.Loose() != 1 {
			t.Errorf("P15.4: GetHead does %d steps, %d loose", d.Steps()-steps-1, d.Loose())
		}
	}
}

// TestP15_4GetHead: of two heads the one with the greater generation, whatever the stamps; only right ones count.
func TestP15_4GetHead(t *testing.T) {
	blank, odd := make([]byte, 64), row(64)
	head := func(gen int, stamp uint64) []byte { return modelHead("LECT", gen, stamp, "") }
	turned := head(99, 99)
	turned[63] ^= 1
	for _, l := range []struct {
		first, second []byte
		want          Head
	}{
		{head(2, 5), head(1, 9), Head{2, 5}}, {head(2, 5), head(3, 4), Head{3, 4}}, {head(1<<32-2, 0), head(1<<32-1, 0), Head{1<<32 - 1, 0}}, {head(256, 1), head(255, 2), Head{256, 1}},
		{head(2, 5), blank, Head{2, 5}}, {blank, head(1, 0), Head{1, 0}}, {head(2, 5), odd, Head{2, 5}}, {odd, head(7, 8), Head{7, 8}},
		{turned, head(7, 8), Head{7, 8}}, {head(6, 8), turned, Head{6, 8}},
		{modelHead("LECT", 0, 9, ""), head(7, 8), Head{7, 8}}, {modelHead("LECT", 8, 9, "x"), head(7, 8), Head{7, 8}}, {head(6, 8), modelHead("LEKT", 99, 99, ""), Head{6, 8}},
	} {
		d := newDrum(t, 64, 0)
		write(t, d, 0, l.first)
		write(t, d, 1, l.second)
		lookNewest(t, d, l.want)
	}
	for _, b := range [][]byte{blank, odd, turned, modelHead("LECT", 0, 9, ""), modelHead("", 5, 9, ""), modelHead("LECT", 5, 9, "x")} {
		for _, c := range [][]byte{blank, odd, turned, modelHead("LECT", 0, 9, "")} {
			d := newDrum(t, 64, 0)
			write(t, d, 0, b)
			write(t, d, 1, c)
			write(t, d, 2, head(3, 3))
			lookNoNewest(t, d, api.ErrForm)
		}
	}
}

// bits is so many bools, the lowest bit of v first.
func bits(v, count int) []bool {
	l := make([]bool, count)
	for k := range l {
		l[k] = v>>k&1 == 1
	}
	return l
}

// TestP15_5Heads: heads of rising generations, and crashes by turns: what is told is the head that was there, or the new one.
func TestP15_5Heads(t *testing.T) {
	dice := sample.Dice(155)
	seen := map[bool]int{}
	for range 400 {
		d := newDrum(t, 64, 0)
		var there Head
		for range 30 {
			next := Head{there.Gen + 1 + dice.Under(3), drawnNumber(&dice, 64)}
			look(t, "Fuse", d.Fuse(dice.Under(3)), api.OK)
			e := PutHead(d, next)
			if e == api.OK && d.Flush() == api.OK {
				there = next
				lookCutHead(t, d, bits(dice.Under(4), 2), there, there)
				continue
			}
			kept := dice.OneIn(2)
			got := lookCutHead(t, d, []bool{kept}, there, next)
			if got != there != (kept && e == api.OK) {
				t.Fatalf("P15.5: %v was there, PutHead of %v: %d, kept %v; GetHead: %v", there, next, e, kept, got)
			}
			seen[got != there]++
			there = got
		}
	}
	if seen[true] < 100 || seen[false] < 100 {
		t.Errorf("%d heads that were cut were there, %d not", seen[true], seen[false])
	}
}

// lookCutHead crashes a drum, and tells which of two heads is there then.
func lookCutHead(t *testing.T, d *drum.Drum, keep []bool, old, next Head) Head {
	t.Helper()
	look(t, "Crash", d.Crash(keep), api.OK)
	h, e := GetHead(d)
	if e == api.ErrForm && old == (Head{}) {
		e = api.OK
	}
	if e != api.OK || h != old && h != next {
		t.Fatalf("P15.5: GetHead: %v, %d, neither %v nor %v", h, e, old, next)
	}
	return h
}

// TestP4Pages: of a page that a crash tears what stands is the old one, or the new one, or ErrSum; behind a Flush it is the new one.
func TestP4Pages(t *testing.T) {
	seen := map[api.Errno]int{}
	for _, l := range []struct {
		old, next []byte
	}{{row(496), row(300)}, {nil, row(496)}, {row(496), nil}, {[]byte("a"), []byte("b")}, {nil, []byte("a")}} {
		start := newDrum(t, 64, 0)
		look(t, "Put", Put(start, 1, 1, row(90)), api.OK)
		if l.old != nil {
			look(t, "Put", Put(start, 3, 1, l.old), api.OK)
		}
		look(t, "Flush", start.Flush(), api.OK)
		before, oldStamp, _ := Get(start, 3)
		for fuse := range 10 {
			d := start.Clone()
			look(t, "Fuse", d.Fuse(fuse), api.OK)
			if Put(d, 3, 2, l.next) == api.OK {
				d.Flush()
			}
			loose := d.Loose()
			for v := range 1 << loose {
				c := d.Clone()
				look(t, "Crash", c.Crash(bits(v, loose)), api.OK)
				p, stamp, e := Get(c, 3)
				isOld := e == api.OK && stamp == oldStamp && bytes.Equal(p, before)
				isNew := e == api.OK && stamp == 2 && bytes.Equal(p, whole(l.next))
				if fuse == 9 && !isNew || v == 0 && fuse < 9 && !isOld || !isOld && !isNew && e != api.ErrSum {
					t.Fatalf("P4: Fuse(%d), kept %b: %x, %d, %d", fuse, v, p, stamp, e)
				}
				lookGet(t, c, 1, whole(row(90)), 1)
				seen[e]++
			}
		}
	}
	if seen[api.OK] < 20 || seen[api.ErrSum] < 100 {
		t.Errorf("P4: pages: %v", seen)
	}
}
