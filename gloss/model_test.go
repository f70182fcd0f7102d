package gloss

import (
	"math"
	"slices"
	"strings"
	"testing"

	"lectern/api"
	"lectern/drum"
	"lectern/hedge"
	. "lectern/rig"
	"lectern/sample"
	"lectern/vault"
)

// The model of a gloss is a list of texts: each one's number is one more than its place.

// made is a new gloss.
func made(t *testing.T, v *vault.Vault) *Gloss {
	t.Helper()
	g, e := Make(v)
	if g == nil || e != api.OK {
		t.Fatalf("P19.1: Make: %v, %d", g, e)
	}
	return g
}

// at is the gloss with a root.
func at(t *testing.T, v *vault.Vault, root int) *Gloss {
	t.Helper()
	g, e := At(v, root)
	if g == nil || e != api.OK || g.Root() != root {
		t.Fatalf("P19.1: At(%d): %v, %d", root, g, e)
	}
	return g
}

// lookNumber looks what Number answers, and answers the list behind it.
func lookNumber(t *testing.T, g *Gloss, l []string, s string) []string {
	t.Helper()
	want := slices.Index(l, s) + 1
	if want == 0 {
		l = append(slices.Clone(l), s)
		want = len(l)
	}
	if n, e := g.Number(s); n != want || e != api.OK {
		t.Fatalf("P19.1: Number(%q): %d, %d, not %d", s, n, e, want)
	}
	return l
}

// numbered is the list behind so many texts.
func numbered(t *testing.T, g *Gloss, texts ...string) []string {
	t.Helper()
	var l []string
	for _, s := range texts {
		l = lookNumber(t, g, l, s)
	}
	return l
}

// lookFind looks what Find answers.
func lookFind(t *testing.T, g *Gloss, l []string, s string) {
	t.Helper()
	want := slices.Index(l, s) + 1
	if n, ok, e := g.Find(s); n != want || ok != (want > 0) || e != api.OK {
		t.Fatalf("P19.1: Find(%q): %d, %v, %d, not %d", s, n, ok, e, want)
	}
}

// lookText looks what Text answers.
func lookText(t *testing.T, g *Gloss, l []string, n int) {
	t.Helper()
	want, f := "", api.ErrNone
	if n >= 1 && n <= len(l) {
		want, f = l[n-1], api.OK
	}
	if s, e := g.Text(n); s != want || e != f {
		t.Fatalf("P19.1: Text(%d): %q, %d, not %q, %d", n, s, e, want, f)
	}
}

// standing is the pairs of the hedge that a gloss lives in.
func standing(t *testing.T, g *Gloss) map[string]string {
	t.Helper()
	l, e := g.pairs.From(nil, math.MaxInt)
	Look(t, "hedge's From", e, api.OK)
	m := map[string]string{}
	for _, p := range l {
		m[string(p.Key)] = string(p.Value)
	}
	return m
}

// lookWhole looks at all of a gloss; it answers its pages.
func lookWhole(t *testing.T, g *Gloss, l []string) []int {
	t.Helper()
	if n, e := g.Many(); n != len(l) || e != api.OK {
		t.Fatalf("P19.1: Many: %d, %d, not %d", n, e, len(l))
	}
	for i, s := range l {
		lookFind(t, g, l, s)
		lookText(t, g, l, i+1)
		lookFind(t, g, l, s[:len(s)/2]+"?")
	}
	for _, n := range []int{0, -1, len(l) + 1, math.MaxInt, math.MinInt, 1<<31 - 1, 1 << 31, 1<<32 + 1, 1 - 1<<32, 256 + 1<<40} {
		lookText(t, g, l, n)
	}
	m := standing(t, g)
	if len(m) > 2*len(l)+1 {
		t.Fatalf("%d pairs of %d texts", len(m), len(l))
	}
	for k, value := range m {
		if len(k) > api.MaxName+5 || len(value) > api.MaxName {
			t.Fatalf("a key of %d bytes, with a value of %d", len(k), len(value))
		}
	}
	return lookPages(t, g)
}

// lookPages looks that the pages of a gloss are those of its hedge.
func lookPages(t *testing.T, g *Gloss) []int {
	t.Helper()
	want, e := g.pairs.Pages()
	Look(t, "hedge's Pages", e, api.OK)
	pages, e := g.Pages()
	if !slices.Equal(pages, want) || !slices.IsSorted(pages) || e != api.OK {
		t.Fatalf("P19.1: Pages: %v, %d, not %v", pages, e, want)
	}
	return pages
}

// drawn is a drawn text: some come again and again.
func drawn(dice *sample.Dice) string {
	switch dice.Under(8) {
	case 0:
		return strings.Repeat(dice.Of("a", "t", "\x00", "\xff"), dice.Under(101))
	case 1:
		b := make([]byte, dice.Under(101))
		for i := range b {
			b[i] = byte(dice.Under(256))
		}
		return string(b)
	case 2:
		return string([]byte{'n', byte(dice.Under(3)), byte(dice.Under(3)), byte(dice.Under(256))})
	}
	return dice.Of("", "m", "n", "t", "a", "é") + dice.Of("", "", "a", "b", "\x00", "\xff") + dice.Of("", "", "1", "2")
}

// lexicon is a gloss with what it should hold, beside a hedge and another gloss in one vault.
type lexicon struct {
	vault  *vault.Vault
	gloss  [2]*Gloss
	now    [2][]string
	begun  [2][]string
	beside *hedge.Hedge
}

// newLexicon makes it, in a transaction that is committed; another one is open behind it.
func newLexicon(t *testing.T, d *drum.Drum, frames int) *lexicon {
	t.Helper()
	x := &lexicon{vault: Opened(t, d, frames)}
	Look(t, "Begin", x.vault.Begin(), api.OK)
	for i := range x.gloss {
		x.gloss[i] = made(t, x.vault)
	}
	h, e := hedge.Make(x.vault)
	Look(t, "hedge's Make", e, api.OK)
	x.beside = h
	Again(t, x.vault)
	return x
}

// look looks at all, and that no page is lost.
func (x *lexicon) look(t *testing.T) {
	t.Helper()
	pages, e := x.beside.Pages()
	Look(t, "hedge's Pages", e, api.OK)
	LookOwned(t, x.vault, lookWhole(t, x.gloss[0], x.now[0]), lookWhole(t, x.gloss[1], x.now[1]), pages)
}

// restore is what an Abort, or a crash, makes of it.
func (x *lexicon) restore(t *testing.T) {
	t.Helper()
	h, e := hedge.At(x.vault, x.beside.Root())
	Look(t, "hedge's At", e, api.OK)
	x.beside = h
	for i := range x.gloss {
		x.gloss[i] = at(t, x.vault, x.gloss[i].Root())
	}
	x.now = x.begun
	x.look(t)
}

// undone says whether a call is refused for want of room; then the transaction is aborted.
func (x *lexicon) undone(t *testing.T, e api.Errno) bool {
	t.Helper()
	if e != api.ErrFull && e != api.ErrLimit {
		return false
	}
	if free := x.vault.Pages() - 1 - len(x.vault.Taken()); e == api.ErrFull && free > 11 {
		t.Fatalf("P6: ErrFull, where %d pages aren't taken", free)
	}
	Undo(t, x.vault)
	x.restore(t)
	return true
}

// number asks for a number.
func (x *lexicon) number(t *testing.T, i int, s string) api.Errno {
	t.Helper()
	before, many := standing(t, x.gloss[i]), len(x.now[i])
	n, e := x.gloss[i].Number(s)
	if (e == api.ErrFull || e == api.ErrLimit) && (n != 0 || slices.Contains(x.now[i], s)) {
		t.Fatalf("P19.1: Number(%q): %d, %d", s, n, e)
	}
	if x.undone(t, e) {
		return e
	}
	Look(t, "P19.1: Number", e, api.OK)
	x.now[i] = lookNumber(t, x.gloss[i], x.now[i], s)
	if want := slices.Index(x.now[i], s) + 1; n != want {
		t.Fatalf("P19.1: Number(%q): %d, not %d", s, n, want)
	}
	if c := Apart(before, standing(t, x.gloss[i])); c > 3 || c > 0 && many == len(x.now[i]) {
		t.Fatalf("P19.1: %d pairs change by Number", c)
	}
	return api.OK
}

// step does one drawn thing.
func (x *lexicon) step(t *testing.T, dice *sample.Dice) api.Errno {
	t.Helper()
	i := dice.Under(2)
	switch dice.Under(30) {
	default:
		return x.number(t, i, drawn(dice))
	case 0, 6:
		e := x.vault.Commit()
		if e == api.ErrFull {
			x.restore(t)
		} else {
			Look(t, "Commit", e, api.OK)
		}
		x.begun = x.now
		Look(t, "Begin", x.vault.Begin(), api.OK)
	case 1:
		Undo(t, x.vault)
		x.restore(t)
	case 2:
		x.gloss[i] = at(t, x.vault, x.gloss[i].Root())
	case 3, 4:
		lookFind(t, x.gloss[i], x.now[i], drawn(dice))
		lookText(t, x.gloss[i], x.now[i], dice.Under(len(x.now[i])+3)-1)
	case 5:
		// Another hedge's pages come between those of the glosses.
		if e := x.beside.Put([]byte{byte(dice.Under(20))}, make([]byte, dice.Under(300))); !x.undone(t, e) {
			Look(t, "hedge's Put", e, api.OK)
		}
	}
	return api.OK
}

// TestModel: glosses are what the model says, through commits, aborts, crashes and full vaults.
func TestModel(t *testing.T) {
	dice := sample.Dice(191)
	ends := map[api.Errno]int{}
	for range 10 {
		d := NewDrum(t, 300+dice.Under(250))
		x := newLexicon(t, d, 16+dice.Under(10))
		for range 4 {
			for range 400 {
				ends[x.step(t, &dice)]++
			}
			x.look(t)
			Look(t, "Crash", d.Crash(nil), api.OK)
			x.vault = Opened(t, d, 16+dice.Under(10))
			x.restore(t)
			Look(t, "Begin", x.vault.Begin(), api.OK)
		}
	}
	if ends[api.ErrFull] < 5 || ends[api.ErrLimit] < 5 {
		t.Errorf("%d ErrFulls, %d ErrLimits", ends[api.ErrFull], ends[api.ErrLimit])
	}
}

// TestP4: the power goes at each step: numbers are there, each with its text, as they were committed.
func TestP4(t *testing.T) {
	type act = Transaction[*vault.Vault, []string]
	adds := func(texts ...string) act {
		return func(v *vault.Vault, l []string) ([]string, api.Errno) {
			g, e := At(v, 1)
			if e != api.OK {
				return nil, e
			}
			l = slices.Clone(l)
			for _, s := range texts {
				n, e := g.Number(s)
				if e != api.OK {
					return nil, e
				}
				if !slices.Contains(l, s) {
					l = append(l, s)
				}
				if n != slices.Index(l, s)+1 {
					return nil, api.ErrSum
				}
			}
			return l, api.OK
		}
	}
	makes := func(v *vault.Vault, l []string) ([]string, api.Errno) {
		_, e := Make(v)
		return []string{}, e
	}
	gone := func(v *vault.Vault, l []string) ([]string, api.Errno) {
		if _, e := adds("gone", "d")(v, l); e != api.OK {
			return nil, e
		}
		if e := v.Abort(); e != api.OK {
			return nil, e
		}
		return l, v.Begin()
	}
	acts := []act{makes, adds("b", "a", "b"), gone, adds("c", ""), adds("a"), adds("d", strings.Repeat("e", 100), strings.Repeat("f", 100)), adds(strings.Repeat("g", 90), "h"), gone}
	stands := func(v *vault.Vault, l []string) bool {
		g, e := At(v, 1)
		if l == nil {
			return e == api.ErrArg && len(v.Taken()) == 0
		}
		if e != api.OK {
			return false
		}
		many, e := g.Many()
		for i, s := range l {
			text, f := g.Text(i + 1)
			n, _, h := g.Find(s)
			if text != s || n != i+1 || f != api.OK || h != api.OK {
				return false
			}
		}
		return many == len(l) && e == api.OK && slices.Equal(lookPages(t, g), v.Taken())
	}
	open := func(d *drum.Drum) (*vault.Vault, api.Errno) { return vault.Open(d, 10) }
	cuts := Script[*vault.Vault, []string]{Sectors: 500, Open: open, Acts: acts, Stands: stands}.Cut(t)
	if cuts < 50 {
		t.Errorf("%d Commits were cut", cuts)
	}
}
