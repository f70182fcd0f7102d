package hedge

import (
	"bytes"
	"maps"
	"slices"
	"testing"

	"lectern/api"
	"lectern/drum"
	. "lectern/rig"
	"lectern/sample"
	"lectern/vault"
)

// The model of a hedge is a map; the pages are looked at as the vault has them.

// made is a new hedge.
func made(t *testing.T, v *vault.Vault) *Hedge {
	t.Helper()
	h, e := Make(v)
	if h == nil || e != api.OK {
		t.Fatalf("P18.1: Make: %v, %d", h, e)
	}
	return h
}

// put puts a pair into a hedge.
func put(t *testing.T, h *Hedge, k, value string) {
	t.Helper()
	if e := h.Put([]byte(k), []byte(value)); e != api.OK {
		t.Fatalf("P18.2: Put(%.20q.., %d bytes): %d", k, len(value), e)
	}
}

// pairs is what a hedge should hold.
type pairs map[string]string

// from is what From should answer.
func (m pairs) from(k string, n int) []Pair {
	var l []Pair
	for _, x := range slices.Sorted(maps.Keys(m)) {
		if x >= k && len(l) < n {
			l = append(l, Pair{[]byte(x), []byte(m[x])})
		}
	}
	return l
}

// size is the chapter's size.
func (m pairs) size() int {
	sum := 0
	for k, value := range m {
		sum += len(k) + min(len(value), 96) + 9
	}
	return sum
}

// longPages is how many pages the long values take.
func (m pairs) longPages() int {
	sum := 0
	for _, value := range m {
		sum += longPages(len(value))
	}
	return sum
}

// longPages is how many pages a value of so many bytes takes besides.
func longPages(size int) int {
	if size <= 96 {
		return 0
	}
	return (size + 491) / 492
}

func samePairs(a, b []Pair) bool {
	return slices.EqualFunc(a, b, func(a, b Pair) bool { return bytes.Equal(a.Key, b.Key) && bytes.Equal(a.Value, b.Value) })
}

// lookFrom looks what From answers.
func lookFrom(t *testing.T, h *Hedge, m pairs, k string, n int) {
	t.Helper()
	l, e := h.From([]byte(k), n)
	if want := m.from(k, n); e != api.OK || !samePairs(l, want) {
		t.Fatalf("P18.2: From(%q, %d): %d pairs %.200q, %d, not %d pairs %.200q", k, n, len(l), l, e, len(want), want)
	}
}

// lookGet looks what Get answers.
func lookGet(t *testing.T, h *Hedge, m pairs, k string) {
	t.Helper()
	value, ok, e := h.Get([]byte(k))
	if want, has := m[k]; string(value) != want || ok != has || e != api.OK {
		t.Fatalf("P18.2: Get(%q): %.40q, %v, %d, not %.40q, %v", k, value, ok, e, want, has)
	}
}

// lookPages looks that a hedge lives in no more pages than it may, all of them taken.
func lookPages(t *testing.T, h *Hedge, m pairs) []int {
	t.Helper()
	l, e := h.Pages()
	Look(t, "P18.3: Pages", e, api.OK)
	for i, n := range l {
		if i > 0 && l[i-1] >= n {
			t.Fatalf("P18.3: Pages don't rise: %v", l)
		}
		if _, e := h.vault.Get(n); e != api.OK {
			t.Fatalf("P18.3: page %d of Pages isn't taken", n)
		}
	}
	if !slices.Contains(l, h.Root()) {
		t.Fatalf("P18.3: Pages without the root %d: %v", h.Root(), l)
	}
	if most := 4 + m.size()/50 + m.longPages(); len(l) > most {
		t.Fatalf("P18.3: %d pages, more than %d, of a size of %d", len(l), most, m.size())
	}
	return l
}

// lookShape looks whether the nodes stand as they should: all leaves on one level, the keys where their branches say, and none of them with too little. It answers how many levels there are.
func lookShape(t *testing.T, h *Hedge) int {
	t.Helper()
	var below func(n int, low, high []byte) int
	below = func(n int, low, high []byte) int {
		p, e := h.read(n)
		Look(t, "read", e, api.OK)
		if !p.fits() || !p.isLeaf && len(p.cells) < 2 || p.isLeaf && n != h.root && p.size() < leastFill {
			t.Fatalf("page %d holds %d cells of %d bytes", n, len(p.cells), p.size())
		}
		levels := 0
		for i, c := range p.cells {
			if (p.isLeaf || i > 0) && (bytes.Compare(c.key, low) < 0 || high != nil && bytes.Compare(c.key, high) >= 0) {
				t.Fatalf("page %d: the key %q isn't between %q and %q", n, c.key, low, high)
			}
			if p.isLeaf {
				continue
			}
			from, till := low, high
			if i > 0 {
				from = c.key
			}
			if i+1 < len(p.cells) {
				till = p.cells[i+1].key
			}
			l := below(c.kid(), from, till)
			if i > 0 && l != levels {
				t.Fatalf("page %d: kid %d has %d levels, not %d", n, i, l, levels)
			}
			levels = l
		}
		return levels + 1
	}
	return below(h.root, nil, nil)
}

// lookWhole looks at all of a hedge.
func lookWhole(t *testing.T, h *Hedge, m pairs) []int {
	t.Helper()
	lookFrom(t, h, m, "", len(m)+1)
	lookShape(t, h)
	return lookPages(t, h, m)
}

// style is how drawn keys and values look.
type style int

// key is a drawn key.
func (s style) key(dice *sample.Dice) string {
	switch s % 5 {
	case 0: // short ones, some of which begin with others
		return dice.Of("\x00", "\x01", "a", "b", "\xff") + dice.Of("", "", "\x00", "a", "b", "\xff") + dice.Of("", "", "\x00", "a", "\xff")
	case 1: // the longest ones, alike nearly up to their end
		return string(bytes.Repeat([]byte{'k'}, 126)) + string([]byte{byte(dice.Under(7)), byte(dice.Under(256))})
	case 2: // of all sizes
		k := make([]byte, 1+dice.Under(128))
		for i := range k {
			k[i] = "\x00a\xff"[dice.Under(3)]
		}
		return string(k)
	case 3: // numbers
		return string([]byte{'n', byte(dice.Under(3)), byte(dice.Under(256))})
	}
	return string(append(bytes.Repeat([]byte{byte(dice.Under(2))}, dice.Under(128)), byte(dice.Under(256))))
}

// value is a drawn value.
func (s style) value(dice *sample.Dice) string {
	size := 0
	switch dice.Under(12) {
	case 0:
	case 1, 2, 3, 4:
		size = dice.Under(10)
	case 5, 6, 7:
		size = dice.Under(97)
	case 8:
		size = 90 + dice.Under(12)
	case 9:
		size = 488 + dice.Under(10)
	case 10:
		size = 96
	case 11:
		size = dice.Under(2500)
	}
	b := make([]byte, size)
	for i := range b {
		b[i] = byte(dice.Under(256))
	}
	return string(b)
}

// grove is hedges in one vault, with what they should hold.
type grove struct {
	vault    *vault.Vault
	hedges   []*Hedge
	now      []pairs
	begun    []pairs // as they were at Begin
	standing []int   // the roots at Begin
	fulls    int
	limits   int
}

// begin begins a transaction.
func (g *grove) begin(t *testing.T) {
	t.Helper()
	Look(t, "Begin", g.vault.Begin(), api.OK)
	g.begun, g.standing = nil, nil
	for i, m := range g.now {
		g.begun = append(g.begun, maps.Clone(m))
		g.standing = append(g.standing, g.hedges[i].Root())
	}
}

// restore is what an Abort, or a crash, makes of the grove.
func (g *grove) restore(t *testing.T) {
	t.Helper()
	for i, n := range g.standing {
		h, e := At(g.vault, n)
		Look(t, "P18.4: At", e, api.OK)
		g.hedges[i], g.now[i] = h, g.begun[i]
	}
	g.look(t)
}

// abort aborts the transaction.
func (g *grove) abort(t *testing.T) {
	t.Helper()
	Look(t, "Abort", g.vault.Abort(), api.OK)
	g.restore(t)
	g.begin(t)
}

// commit commits the transaction; if the log has no room for it, it is undone.
func (g *grove) commit(t *testing.T) {
	t.Helper()
	if e := g.vault.Commit(); e == api.ErrFull {
		g.restore(t)
	} else {
		Look(t, "Commit", e, api.OK)
	}
	g.begin(t)
}

// look looks at all hedges, and that no page is lost.
func (g *grove) look(t *testing.T) {
	t.Helper()
	var all [][]int
	for i, h := range g.hedges {
		all = append(all, lookWhole(t, h, g.now[i]))
	}
	LookOwned(t, g.vault, all...)
}

// told looks at what a call that changes pairs answered; whether it is done. Behind ErrFull and ErrLimit the transaction is aborted. A call may need so many pages that aren't taken.
func (g *grove) told(t *testing.T, e api.Errno, needs int) bool {
	t.Helper()
	switch e {
	case api.OK:
		return true
	case api.ErrFull:
		g.fulls++
	case api.ErrLimit:
		g.limits++
	default:
		t.Fatalf("P18.2: %d", e)
	}
	if free := g.vault.Pages() - 1 - len(g.vault.Taken()); e == api.ErrFull && free > needs {
		t.Fatalf("P6: ErrFull, where %d pages aren't taken and %d are needed", free, needs)
	}
	g.abort(t)
	return false
}

// put puts a drawn pair into a hedge.
func (g *grove) put(t *testing.T, i int, k, value string) bool {
	t.Helper()
	if !g.told(t, g.hedges[i].Put([]byte(k), []byte(value)), 11+longPages(len(value))) {
		return false
	}
	g.now[i][k] = value
	return true
}

// delete takes a key out of a hedge; where leaves are evened out, that may need new pages for the branches above.
func (g *grove) delete(t *testing.T, i int, k string) bool {
	t.Helper()
	ok, e := g.hedges[i].Delete([]byte(k))
	if !g.told(t, e, 11) {
		return false
	}
	if _, had := g.now[i][k]; ok != had {
		t.Fatalf("P18.2: Delete(%q): %v", k, ok)
	}
	delete(g.now[i], k)
	return true
}

// some is a key of a hedge, if it has one, most times; else a drawn one.
func (g *grove) some(dice *sample.Dice, i int) string {
	l := slices.Sorted(maps.Keys(g.now[i]))
	if len(l) == 0 || dice.OneIn(5) {
		return style(i).key(dice)
	}
	return l[dice.Under(len(l))]
}

// step does one drawn thing.
func (g *grove) step(t *testing.T, dice *sample.Dice) {
	t.Helper()
	i := dice.Under(len(g.hedges))
	switch dice.Under(40) {
	default:
		g.put(t, i, style(i).key(dice), style(i).value(dice))
	case 0, 1, 2, 3, 4: // another value
		g.put(t, i, g.some(dice, i), style(i).value(dice))
	case 5, 6, 7, 8, 9, 10, 11:
		g.delete(t, i, g.some(dice, i))
	case 12: // many of them, in order
		l := slices.Sorted(maps.Keys(g.now[i]))
		if dice.OneIn(2) {
			slices.Reverse(l)
		}
		at := dice.Under(len(l) + 1)
		for _, k := range l[at:min(len(l), at+dice.Under(60))] {
			if !g.delete(t, i, k) {
				break
			}
		}
	case 13:
		g.commit(t)
	case 14:
		g.abort(t)
	case 15:
		h, e := At(g.vault, g.hedges[i].Root())
		Look(t, "P18.1: At", e, api.OK)
		g.hedges[i] = h
	case 16:
		if dice.OneIn(10) {
			g.dropped(t, i)
		}
	case 17:
		k := style(i).key(dice)
		lookFrom(t, g.hedges[i], g.now[i], k, dice.Under(6))
		lookFrom(t, g.hedges[i], g.now[i], k[:dice.Under(len(k))], dice.Under(40))
	case 18:
		lookGet(t, g.hedges[i], g.now[i], g.some(dice, i))
	case 19:
		if dice.OneIn(3) {
			g.look(t)
		}
	}
}

// dropped drops a hedge, and makes a new one.
func (g *grove) dropped(t *testing.T, i int) {
	t.Helper()
	if !g.told(t, g.hedges[i].Drop(), 0) {
		return
	}
	h, e := Make(g.vault)
	if g.told(t, e, 0) {
		g.hedges[i], g.now[i] = h, pairs{}
	}
}

// newGrove is some hedges in a vault on a drum, in a transaction.
func newGrove(t *testing.T, d *drum.Drum, frames, hedges int) *grove {
	t.Helper()
	g := &grove{vault: Opened(t, d, frames)}
	g.begin(t)
	for range hedges {
		g.hedges = append(g.hedges, made(t, g.vault))
		g.now = append(g.now, pairs{})
	}
	Look(t, "Commit", g.vault.Commit(), api.OK)
	g.begin(t)
	return g
}

// TestModel: hedges are what the model says, through commits, aborts, crashes and full vaults.
func TestModel(t *testing.T) {
	dice := sample.Dice(181)
	fulls, limits := 0, 0
	for range 12 {
		d := NewDrum(t, 400+dice.Under(4000))
		g := newGrove(t, d, 30+dice.Under(60), 5)
		for range 6 {
			for range 400 {
				g.step(t, &dice)
			}
			g.look(t)
			if !dice.OneIn(3) {
				g.commit(t)
			}
			Look(t, "Crash", d.Crash(nil), api.OK)
			g.vault = Opened(t, d, 30+dice.Under(60))
			g.restore(t)
			g.begin(t)
		}
		fulls, limits = fulls+g.fulls, limits+g.limits
	}
	if fulls < 20 || limits < 20 {
		t.Errorf("%d ErrFulls, %d ErrLimits", fulls, limits)
	}
}
