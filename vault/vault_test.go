package vault

import (
	"bytes"
	"math"
	"slices"
	"testing"

	"lectern/api"
	"lectern/drum"
	. "lectern/forge"
	"lectern/sample"
	"lectern/sheet"
)

// opened is the vault on a drum; an opening does no more steps than it may.
func opened(t *testing.T, d *drum.Drum, frames int) *Vault {
	t.Helper()
	steps := d.Steps()
	v, e := Open(d, frames)
	if v == nil || e != api.OK {
		t.Fatalf("P17.1: Open: %v, %d", v, e)
	}
	if most := 3*(d.Sectors()/4) + 40; d.Steps()-steps > most {
		t.Fatalf("P17.1: Open does %d steps, more than %d", d.Steps()-steps, most)
	}
	return v
}

// lookNoOpen looks that an opening is refused, and writes nothing.
func lookNoOpen(t *testing.T, d *drum.Drum, frames int, want api.Errno) {
	t.Helper()
	loose, before := d.Loose(), Sectors(t, d)
	if v, e := Open(d, frames); v != nil || e != want {
		t.Fatalf("P17.1: Open: %v, %d, not %d", v, e, want)
	}
	if d.Loose() != loose || Sectors(t, d) != before {
		t.Fatalf("P17.1: an Open that is refused writes")
	}
}

// row is so many bytes, none of them 0.
func row(size int) []byte {
	p := make([]byte, size)
	for i := range p {
		p[i] = byte(i%255 + 1)
	}
	return p
}

func lookGet(t *testing.T, v *Vault, n int, want string) {
	t.Helper()
	if p, e := v.Get(n); string(p) != Whole(want) || e != api.OK {
		t.Fatalf("P17.2: Get(%d): %q, %d, not %q", n, p, e, want)
	}
}

func lookNoGet(t *testing.T, v *Vault, n int, want api.Errno) {
	t.Helper()
	if p, e := v.Get(n); len(p) != 0 || e != want {
		t.Fatalf("P17.2: Get(%d): %q, %d, not %d", n, p, e, want)
	}
}

func lookAlloc(t *testing.T, v *Vault, want int) {
	t.Helper()
	if n, e := v.Alloc(); n != want || e != api.OK {
		t.Fatalf("P17.2: Alloc: %d, %d, not %d", n, e, want)
	}
}

func lookNoAlloc(t *testing.T, v *Vault, want api.Errno) {
	t.Helper()
	if n, e := v.Alloc(); n != 0 || e != want {
		t.Fatalf("P17.2: Alloc: %d, %d, not %d", n, e, want)
	}
}

func lookTaken(t *testing.T, v *Vault, want ...int) {
	t.Helper()
	if l := v.Taken(); !slices.Equal(l, want) {
		t.Fatalf("P17.2: Taken: %v, not %v", l, want)
	}
}

func lookNumbers(t *testing.T, v *Vault, gen, groups int, busy bool) {
	t.Helper()
	if v.Gen() != gen || v.Groups() != groups || v.Busy() != busy {
		t.Fatalf("P17.4: Gen: %d, Groups: %d, Busy: %v, not %d, %d, %v", v.Gen(), v.Groups(), v.Busy(), gen, groups, busy)
	}
}

// lookRefused looks what all methods that answer an error answer, some of them at drawn pages.
func lookRefused(t *testing.T, v *Vault, want api.Errno) {
	t.Helper()
	Look(t, "Begin", v.Begin(), want)
	Look(t, "Abort", v.Abort(), want)
	Look(t, "Commit", v.Commit(), want)
	Look(t, "Checkpoint", v.Checkpoint(), want)
	lookNoAlloc(t, v, want)
	for _, n := range []int{0, 1, 2, -1, 9, math.MinInt, math.MaxInt} {
		Look(t, "Free", v.Free(n), want)
		Look(t, "Put", v.Put(n, nil), want)
		Look(t, "Put of too much", v.Put(n, row(497)), want)
		lookNoGet(t, v, n, want)
	}
}

// allocated is the vault on a new drum with so many pages taken, the page n with the bytes n, by transactions of two pages.
func allocated(t *testing.T, d *drum.Drum, frames, pages int) *Vault {
	t.Helper()
	v := opened(t, d, frames)
	for n := 1; n <= pages; n++ {
		Look(t, "Begin", v.Begin(), api.OK)
		lookAlloc(t, v, n)
		Look(t, "Put", v.Put(n, []byte{byte(n)}), api.OK)
		Look(t, "Commit", v.Commit(), api.OK)
	}
	return v
}

func TestExamples(t *testing.T) {
	d := NewDrum(t, 100)
	v := opened(t, d, 4)
	Look(t, "Begin", v.Begin(), api.OK)
	lookAlloc(t, v, 1)
	Look(t, "Put", v.Put(1, []byte("a")), api.OK)
	Look(t, "Commit", v.Commit(), api.OK)
	Look(t, "Crash", d.Crash(nil), api.OK)
	v = opened(t, d, 4)
	lookTaken(t, v, 1)
	lookGet(t, v, 1, "a")
	lookNumbers(t, v, 2, 0, false)
}

// TestP1Nil: a nil vault.
func TestP1Nil(t *testing.T) {
	var v *Vault
	lookRefused(t, v, api.ErrNil)
	lookTaken(t, v)
	lookNumbers(t, v, 0, 0, false)
	if v.Pages() != 0 {
		t.Errorf("P17.4: Pages of nil: %d", v.Pages())
	}
	for _, frames := range []int{3, 4, 1024, 1025} {
		lookNoOpen(t, nil, frames, api.ErrNil)
	}
	lookNoOpen(t, &drum.Drum{}, 4, api.ErrArg)
}

// TestP1Zero: a vault that no Open made.
func TestP1Zero(t *testing.T) {
	v := &Vault{}
	for range 2 {
		v.Begin()
		v.Alloc()
		v.Taken()
		v.Pages()
		v.Busy()
		v.Gen()
		v.Groups()
		for _, n := range []int{0, 1, -1, 8, 5000, math.MinInt, math.MaxInt} {
			v.Free(n)
			v.Put(n, nil)
			v.Get(n)
		}
		v.Commit()
		v.Checkpoint()
		v.Begin()
		v.Abort()
	}
}

// TestP17_2Arguments: pages that are none, or aren't taken; what is refused changes nothing.
func TestP17_2Arguments(t *testing.T) {
	d := NewDrum(t, 100) // pages 0 to 8
	v := allocated(t, d, 8, 3)
	Look(t, "Begin", v.Begin(), api.OK)
	Look(t, "Free", v.Free(2), api.OK)
	before, steps := Sectors(t, d), d.Steps()
	for _, n := range []int{0, 2, 4, 8, 9, 10, -1, -8, 496, 496 * 8, 5000, 1 << 32, 1<<32 + 1, math.MinInt, math.MaxInt} {
		Look(t, "Free", v.Free(n), api.ErrArg)
		Look(t, "Put", v.Put(n, nil), api.ErrArg)
		Look(t, "Put of too much", v.Put(n, row(497)), api.ErrArg)
		lookNoGet(t, v, n, api.ErrArg)
	}
	for _, size := range []int{497, 498, 1000, 100000} {
		Look(t, "Put of too much", v.Put(1, row(size)), api.ErrLong)
	}
	Look(t, "Begin in a transaction", v.Begin(), api.ErrState)
	Look(t, "Checkpoint in a transaction", v.Checkpoint(), api.ErrState)
	if Sectors(t, d) != before || d.Steps() != steps {
		t.Errorf("P17.2: what is refused does %d steps", d.Steps()-steps)
	}
	lookTaken(t, v, 1, 3)
	lookGet(t, v, 1, "\x01")
	lookGet(t, v, 3, "\x03")
	lookNumbers(t, v, 3, 1, true) // a log of 25 sectors has room for one group of two pages
	Look(t, "Put of a whole page", v.Put(1, row(496)), api.OK)
	lookGet(t, v, 1, string(row(496)))
	Look(t, "Put of nothing", v.Put(1, nil), api.OK)
	lookGet(t, v, 1, "")
	Look(t, "Commit", v.Commit(), api.OK)
	lookNoGet(t, v, 2, api.ErrArg)
	lookGet(t, v, 1, "")
}

// TestP17_2State: what is asked outside of a transaction.
func TestP17_2State(t *testing.T) {
	v := allocated(t, NewDrum(t, 100), 8, 2)
	for range 2 {
		lookNoAlloc(t, v, api.ErrState)
		for _, n := range []int{0, 1, 2, 3, -1, math.MaxInt} {
			Look(t, "Free", v.Free(n), api.ErrState)
			Look(t, "Put", v.Put(n, nil), api.ErrState)
			Look(t, "Put of too much", v.Put(n, row(497)), api.ErrState)
		}
		Look(t, "Commit", v.Commit(), api.ErrState)
		Look(t, "Abort", v.Abort(), api.ErrState)
		lookGet(t, v, 1, "\x01")
		lookNoGet(t, v, 3, api.ErrArg)
		lookTaken(t, v, 1, 2)
		lookNumbers(t, v, 2, 1, false)
		Look(t, "Begin", v.Begin(), api.OK)
		Look(t, "Abort", v.Abort(), api.OK)
	}
}

// TestP17_2Alloc: the least page that isn't taken, with bytes 0; what stood there is gone.
func TestP17_2Alloc(t *testing.T) {
	d := NewDrum(t, 140) // pages 0 to 11
	v := allocated(t, d, 8, 11)
	Look(t, "Begin", v.Begin(), api.OK)
	lookNoAlloc(t, v, api.ErrFull)
	Look(t, "Free", v.Free(5), api.OK)
	Look(t, "Free", v.Free(2), api.OK)
	lookTaken(t, v, 1, 3, 4, 6, 7, 8, 9, 10, 11)
	lookAlloc(t, v, 2)
	lookGet(t, v, 2, "")
	lookAlloc(t, v, 5)
	lookGet(t, v, 5, "")
	lookNoAlloc(t, v, api.ErrFull)
	Look(t, "Put", v.Put(5, []byte("five")), api.OK)
	Look(t, "Free", v.Free(5), api.OK)
	lookNoGet(t, v, 5, api.ErrArg)
	lookAlloc(t, v, 5)
	lookGet(t, v, 5, "")
	Look(t, "Commit", v.Commit(), api.OK)
	for _, v := range []*Vault{v, opened(t, crashed(t, d, nil), 4)} {
		lookTaken(t, v, 1, 2, 3, 4, 5, 6, 7, 8, 9, 10, 11)
		for n := 1; n <= 11; n++ {
			want := string([]byte{byte(n)})
			if n == 2 || n == 5 {
				want = ""
			}
			lookGet(t, v, n, want)
		}
	}
}

// TestP17_2Freed: a page that was free behind a Commit has bytes 0 when it comes again.
func TestP17_2Freed(t *testing.T) {
	d := NewDrum(t, 100)
	v := allocated(t, d, 8, 3)
	lookGet(t, v, 2, "\x02")
	Look(t, "Begin", v.Begin(), api.OK)
	Look(t, "Free", v.Free(2), api.OK)
	Look(t, "Commit", v.Commit(), api.OK)
	lookTaken(t, v, 1, 3)
	Look(t, "Begin", v.Begin(), api.OK)
	lookAlloc(t, v, 2)
	lookGet(t, v, 2, "")
	Look(t, "Commit", v.Commit(), api.OK)
	lookGet(t, v, 2, "")
	lookGet(t, opened(t, d, 4), 2, "")
}

// TestP17_2Abort: the state is as it was at Begin, and as it stands on the drum; nothing is written.
func TestP17_2Abort(t *testing.T) {
	d := NewDrum(t, 100)
	v := allocated(t, d, 8, 3)
	before, steps := Sectors(t, d), d.Steps()
	Look(t, "Begin", v.Begin(), api.OK)
	Look(t, "Put", v.Put(1, []byte("x")), api.OK)
	Look(t, "Free", v.Free(2), api.OK)
	Look(t, "Free", v.Free(3), api.OK)
	lookAlloc(t, v, 2)
	lookAlloc(t, v, 3)
	lookAlloc(t, v, 4)
	Look(t, "Put", v.Put(4, []byte("y")), api.OK)
	Look(t, "Abort", v.Abort(), api.OK)
	if Sectors(t, d) != before || d.Steps() != steps {
		t.Errorf("P17.5: Abort does %d steps", d.Steps()-steps)
	}
	for _, v := range []*Vault{v, opened(t, d.Clone(), 8)} {
		lookTaken(t, v, 1, 2, 3)
		for n := 1; n <= 3; n++ {
			lookGet(t, v, n, string([]byte{byte(n)}))
		}
		Look(t, "Begin", v.Begin(), api.OK)
		lookAlloc(t, v, 4)
		lookGet(t, v, 4, "")
	}
}

// TestP17_2Memory: what is handed in is neither changed nor kept; what is answered is new memory, spare room too.
func TestP17_2Memory(t *testing.T) {
	d := NewDrum(t, 100)
	v := allocated(t, d, 8, 2)
	spoil := func() {
		for n := 1; n <= 2; n++ {
			p, e := v.Get(n)
			Look(t, "Get", e, api.OK)
			p = p[:cap(p)]
			for i := range p {
				p[i] = 0xee
			}
		}
		l := v.Taken()
		l = l[:cap(l)]
		for i := range l {
			l[i] = 77
		}
	}
	spoil()
	lookGet(t, v, 1, "\x01")
	lookTaken(t, v, 1, 2)
	Look(t, "Begin", v.Begin(), api.OK)
	p := append(make([]byte, 0, 600), "abc"...)
	spare := p[:600]
	Look(t, "Put", v.Put(1, p), api.OK)
	if string(p) != "abc" || !bytes.Equal(spare[3:], make([]byte, 597)) {
		t.Errorf("P17.2: Put makes %q of what is handed in", spare)
	}
	copy(spare, row(600))
	spoil()
	lookGet(t, v, 1, "abc")
	Look(t, "Commit", v.Commit(), api.OK)
	spoil()
	lookGet(t, v, 1, "abc")
	lookGet(t, v, 2, "\x02")
	lookTaken(t, v, 1, 2)
	lookGet(t, opened(t, d, 4), 1, "abc")
}

// TestP17_2Bits: which bit of the map is which page's.
func TestP17_2Bits(t *testing.T) {
	d := NewDrum(t, 16384)
	v := opened(t, d, 1024)
	if v.Pages() != 1535 {
		t.Fatalf("P17.4: Pages: %d", v.Pages())
	}
	var want page
	for n := 1; n < 1535; {
		Look(t, "Begin", v.Begin(), api.OK)
		for range 300 {
			if n == 1535 {
				break
			}
			lookAlloc(t, v, n)
			want[n/8] |= 1 << (n % 8)
			n++
		}
		Look(t, "Commit", v.Commit(), api.OK)
		lookMap(t, d, want)
	}
	Look(t, "Begin", v.Begin(), api.OK)
	lookNoAlloc(t, v, api.ErrFull)
	for _, n := range []int{1534, 8, 7, 1, 1000} {
		Look(t, "Free", v.Free(n), api.OK)
		want[n/8] &^= 1 << (n % 8)
	}
	Look(t, "Commit", v.Commit(), api.OK)
	lookMap(t, d, want)
	taken := v.Taken()
	if len(taken) != 1529 || !slices.IsSorted(taken) || slices.Contains(taken, 7) || taken[0] != 2 || taken[1528] != 1533 {
		t.Errorf("P17.2: Taken: %v", taken)
	}
	Look(t, "Begin", v.Begin(), api.OK)
	for _, n := range []int{1, 7, 8, 1000, 1534} {
		lookAlloc(t, v, n)
	}
	lookNoAlloc(t, v, api.ErrFull)
}

func lookMap(t *testing.T, d *drum.Drum, want page) {
	t.Helper()
	if p, _, e := sheet.Get(d.Clone(), 0); !bytes.Equal(p, want[:]) || e != api.OK {
		t.Fatalf("P17.2: the map: %x, %d, not %x", p, e, want)
	}
}

// TestP17_2Frames: there may be at most frames - 1 changed pages, the map among them.
func TestP17_2Frames(t *testing.T) {
	for _, frames := range []int{4, 5, 9, 40} {
		v := allocated(t, NewDrum(t, 2000), 1024, 100)
		v = opened(t, v.disk, frames)
		lookPuts(t, v, frames)
		lookAllocs(t, v, frames)
		lookFrees(t, v, frames)
	}
	v := opened(t, NewDrum(t, 16384), 1024)
	Look(t, "Begin", v.Begin(), api.OK)
	for n := range 1022 {
		lookAlloc(t, v, n+1)
	}
	lookNoAlloc(t, v, api.ErrLimit)
}

// lookPuts changes pages by Put alone, till there may be no more, and then frees some.
func lookPuts(t *testing.T, v *Vault, frames int) {
	t.Helper()
	Look(t, "Begin", v.Begin(), api.OK)
	for n := 1; n <= frames-1; n++ {
		Look(t, "Put", v.Put(n, []byte("p")), api.OK)
	}
	Look(t, "Put of one page more", v.Put(frames, nil), api.ErrLimit)
	Look(t, "Put of too much", v.Put(frames, row(497)), api.ErrLong)
	Look(t, "Put of no page", v.Put(101, nil), api.ErrArg)
	Look(t, "Put of a changed page", v.Put(1, []byte("q")), api.OK)
	Look(t, "Free of another page", v.Free(frames), api.ErrLimit)
	Look(t, "Free of no page", v.Free(101), api.ErrArg)
	lookNoAlloc(t, v, api.ErrLimit)
	lookGet(t, v, frames, string([]byte{byte(frames)}))
	Look(t, "Free of a changed page", v.Free(1), api.OK) // the map in its place
	Look(t, "Put of one page more", v.Put(frames, nil), api.ErrLimit)
	lookNoAlloc(t, v, api.ErrLimit)
	Look(t, "Free of another page", v.Free(frames), api.OK)
	Look(t, "Free of a changed page", v.Free(2), api.OK)
	lookAlloc(t, v, 1)
	lookNoAlloc(t, v, api.ErrLimit)
	Look(t, "Abort", v.Abort(), api.OK)
	lookGet(t, v, 1, "\x01")
}

// lookAllocs changes pages by Alloc alone, till there may be no more.
func lookAllocs(t *testing.T, v *Vault, frames int) {
	t.Helper()
	Look(t, "Begin", v.Begin(), api.OK)
	for n := range frames - 2 {
		lookAlloc(t, v, 101+n)
	}
	lookNoAlloc(t, v, api.ErrLimit)
	Look(t, "Put of one page more", v.Put(1, nil), api.ErrLimit)
	Look(t, "Free", v.Free(101), api.OK)
	Look(t, "Put of one page more", v.Put(1, nil), api.OK)
	lookNoAlloc(t, v, api.ErrLimit)
	Look(t, "Free", v.Free(1), api.OK)
	Look(t, "Free", v.Free(2), api.OK)
	lookAlloc(t, v, 1)
	lookNoAlloc(t, v, api.ErrLimit)
	Look(t, "Abort", v.Abort(), api.OK)
}

// lookFrees frees all pages: but for the map none is changed.
func lookFrees(t *testing.T, v *Vault, frames int) {
	t.Helper()
	Look(t, "Begin", v.Begin(), api.OK)
	for n := 1; n <= 100; n++ {
		Look(t, "Free", v.Free(n), api.OK)
	}
	for n := range frames - 2 {
		lookAlloc(t, v, 1+n)
	}
	lookNoAlloc(t, v, api.ErrLimit)
	Look(t, "Abort", v.Abort(), api.OK)
}

// TestP6: ErrFull and ErrLimit come of their bounds alone; what was committed is there, and no page is lost.
func TestP6(t *testing.T) {
	dice := sample.Dice(176)
	for _, sectors := range []int{88, 89, 100, 300} {
		d := NewDrum(t, sectors)
		v := opened(t, d, 4)
		for range 20 {
			var taken []int
			for e := api.OK; e == api.OK; {
				Look(t, "Begin", v.Begin(), api.OK)
				var n int
				n, e = v.Alloc()
				if e == api.OK {
					taken = append(taken, n)
					Look(t, "P6: Commit", v.Commit(), api.OK)
				} else {
					Look(t, "P6: Alloc", e, api.ErrFull)
					Look(t, "Abort", v.Abort(), api.OK)
				}
			}
			if len(taken) != v.Pages()-1 {
				t.Fatalf("P6: %d pages of %d", len(taken), v.Pages())
			}
			lookTaken(t, v, taken...)
			if dice.OneIn(2) {
				Look(t, "Crash", d.Crash(bits(dice.Under(1<<30), 30)), api.OK)
				v = opened(t, d, 4)
				lookTaken(t, v, taken...)
			}
			for len(taken) > 0 {
				i := dice.Under(len(taken))
				Look(t, "Begin", v.Begin(), api.OK)
				Look(t, "P6: Free", v.Free(taken[i]), api.OK)
				Look(t, "P6: Commit", v.Commit(), api.OK)
				taken = slices.Delete(taken, i, i+1)
			}
			lookTaken(t, v)
		}
	}
}

// crashed is a drum's clone that crashed.
func crashed(t *testing.T, d *drum.Drum, keep []bool) *drum.Drum {
	t.Helper()
	c := d.Clone()
	Look(t, "Crash", c.Crash(keep), api.OK)
	return c
}

// bits is so many bools, the lowest bit of v first.
func bits(v, count int) []bool {
	l := make([]bool, count)
	for k := range l {
		l[k] = v>>k&1 == 1
	}
	return l
}
