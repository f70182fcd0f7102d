package gloss

import (
	"math"
	"slices"
	"strings"
	"testing"

	"lectern/api"
	"lectern/hedge"
	. "lectern/rig"
	"lectern/sample"
	"lectern/vault"
)

// lookNo looks that calls answer an error, and zero values beside it.
func lookNo(t *testing.T, g *Gloss, s string, number, find api.Errno) {
	t.Helper()
	if n, e := g.Number(s); n != 0 || e != number {
		t.Errorf("Number(%.20q): %d, %d, not %d", s, n, e, number)
	}
	if n, ok, e := g.Find(s); n != 0 || ok || e != find {
		t.Errorf("Find(%.20q): %d, %v, %d, not %d", s, n, ok, e, find)
	}
}

// lookRefused looks that all calls answer an error.
func lookRefused(t *testing.T, g *Gloss, want api.Errno) {
	t.Helper()
	lookNo(t, g, "a", want, want)
	lookNo(t, g, "", want, want)
	for _, n := range []int{1, 0, -1, math.MaxInt} {
		if s, e := g.Text(n); s != "" || e != want {
			t.Errorf("Text(%d): %q, %d, not %d", n, s, e, want)
		}
	}
	if n, e := g.Many(); n != 0 || e != want {
		t.Errorf("Many: %d, %d, not %d", n, e, want)
	}
	if l, e := g.Pages(); len(l) != 0 || e != want {
		t.Errorf("Pages: %v, %d, not %d", l, e, want)
	}
	Look(t, "Drop", g.Drop(), want)
}

// lookNoAt looks that there is no gloss with a root.
func lookNoAt(t *testing.T, v *vault.Vault, root int, want api.Errno) {
	t.Helper()
	if g, e := At(v, root); g != nil || e != want {
		t.Errorf("P19.1: At(%d): %v, %d, not %d", root, g, e, want)
	}
}

var long = strings.Repeat("l", 101)

// TestP1Nil: a nil gloss, one that comes of no Make, and one of a nil vault.
func TestP1Nil(t *testing.T) {
	var g *Gloss
	lookRefused(t, g, api.ErrNil)
	lookNo(t, g, long, api.ErrNil, api.ErrNil)
	if g.Root() != 0 {
		t.Errorf("P19.1: Root of a nil gloss: %d", g.Root())
	}
	g = &Gloss{}
	g.Number("a")
	g.Number(long)
	g.Find("")
	g.Text(1)
	g.Many()
	g.Pages()
	g.Drop()
	g.Root()
	if g, e := Make(nil); g != nil || e != api.ErrNil {
		t.Errorf("P19.1: Make of a nil vault: %v, %d", g, e)
	}
	for _, n := range []int{0, 1, -1, math.MaxInt} {
		lookNoAt(t, nil, n, api.ErrNil)
		lookNoAt(t, &vault.Vault{}, n, api.ErrArg)
	}
	if g, e := Make(&vault.Vault{}); g != nil || e == api.OK {
		t.Errorf("P19.1: Make of a vault that wasn't opened: %v, %d", g, e)
	}
}

// TestErrors: ErrLong is asked ahead of what the vault says; what changes nothing needs no transaction.
func TestErrors(t *testing.T) {
	d := NewDrum(t, 400)
	v := Opened(t, d, 16)
	if g, e := Make(v); g != nil || e != api.ErrState {
		t.Errorf("P19.1: Make without a transaction: %v, %d", g, e)
	}
	Look(t, "Begin", v.Begin(), api.OK)
	g := made(t, v)
	l := numbered(t, g, "a", long[1:])
	lookNo(t, g, long, api.ErrLong, api.ErrLong)
	Look(t, "Commit", v.Commit(), api.OK)
	lookNo(t, g, long, api.ErrLong, api.ErrLong)
	lookNo(t, g, strings.Repeat(long, 9999), api.ErrLong, api.ErrLong)
	for _, s := range []string{"b", "", long[2:]} {
		lookNo(t, g, s, api.ErrState, api.OK)
	}
	Look(t, "Drop", g.Drop(), api.ErrState)
	lookNumber(t, g, l, "a")
	lookNumber(t, g, l, long[1:])
	LookOwned(t, v, lookWhole(t, g, l))
	Look(t, "Fuse", d.Fuse(0), api.OK)
	Look(t, "Checkpoint", v.Checkpoint(), api.ErrDown)
	lookRefused(t, g, api.ErrDown)
	lookNo(t, g, long, api.ErrLong, api.ErrLong)
	lookNoAt(t, v, 1, api.ErrDown)
	if g, e := Make(v); g != nil || e != api.ErrDown {
		t.Errorf("P19.1: Make without power: %v, %d", g, e)
	}
}

// TestP19_1Example: the chapter's example.
func TestP19_1Example(t *testing.T) {
	g := made(t, Begun(t, 100, 8))
	for i, s := range []string{"b", "a", "b"} {
		if n, e := g.Number(s); n != 1+i%2 || e != api.OK {
			t.Errorf("P19.1: Number(%s): %d, %d", s, n, e)
		}
	}
	if s, e := g.Text(2); s != "a" || e != api.OK {
		t.Errorf("P19.1: Text(2): %q, %d", s, e)
	}
	if n, ok, e := g.Find("c"); n != 0 || ok || e != api.OK {
		t.Errorf("P19.1: Find(c): %d, %v, %d", n, ok, e)
	}
	if n, e := g.Many(); n != 2 || e != api.OK {
		t.Errorf("P19.1: Many: %d, %d", n, e)
	}
	if s, e := g.Text(3); s != "" || e != api.ErrNone {
		t.Errorf("P19.1: Text(3): %q, %d", s, e)
	}
}

// TestP19_1Make: a new gloss is its root alone; glosses of one root are one.
func TestP19_1Make(t *testing.T) {
	v := Begun(t, 800, 64)
	a := made(t, v)
	b := made(t, v)
	if a.Root() != 1 || b.Root() != 2 {
		t.Errorf("P19.1: the roots are %d and %d", a.Root(), b.Root())
	}
	LookOwned(t, v, lookWhole(t, a, nil), lookWhole(t, b, nil))
	same := at(t, v, 1)
	l := numbered(t, a, "x", "y")
	l = lookNumber(t, same, l, "z")
	m := numbered(t, b, "y", "z")
	lookWhole(t, a, l)
	lookWhole(t, same, l)
	LookOwned(t, v, lookWhole(t, at(t, v, 1), l), lookWhole(t, at(t, v, 2), m))
	for _, root := range []int{0, 3, -1, 4, math.MaxInt, math.MinInt} {
		lookNoAt(t, v, root, api.ErrArg)
	}
	Look(t, "P19.1: Drop", a.Drop(), api.OK)
	LookOwned(t, v, lookWhole(t, b, m))
	lookNoAt(t, v, 1, api.ErrArg)
	lookRefused(t, a, api.ErrArg)
}

// TestP19_1Texts: texts of all kinds, among them such as begin with another one, or look like what a gloss may write.
func TestP19_1Texts(t *testing.T) {
	v := Begun(t, 16384, 1024)
	g := made(t, v)
	texts := []string{"", "m", "t", "n", "\x00", "\x00\x00", "\xff", "n\x00\x00\x00\x00\x00\x00\x00\x01", "n\x00\x00\x00\x01", "a", "aa", "ab", "a\x00", "é", long[:99], long[:100], strings.Repeat("\xff", 100), strings.Repeat("\x00", 100)}
	for i := range 300 {
		texts = append(texts, string([]byte{byte(i >> 4), byte(i)}), strings.Repeat("k", 97)+string([]byte{byte(i), byte(i >> 3)}))
	}
	var l []string
	for i, s := range texts {
		lookFind(t, g, l, s)
		lookText(t, g, l, len(l)+1)
		before := standing(t, g)
		l = lookNumber(t, g, l, s)
		after := standing(t, g)
		if c := Apart(before, after); c > 3 || c == 0 && !slices.Contains(texts[:i], s) {
			t.Fatalf("P19.1: %d pairs change by Number(%q)", c, s)
		}
		l = lookNumber(t, g, l, s)
		lookFind(t, g, l, s)
		if Apart(after, standing(t, g)) != 0 {
			t.Fatalf("P19.1: pairs change by Number(%q), which has a number", s)
		}
	}
	LookOwned(t, v, lookWhole(t, g, l))
	Look(t, "P19.1: Drop", g.Drop(), api.OK)
	LookOwned(t, v)
}

// TestP19_1Limit: behind the number 2^31 - 1 there is none.
func TestP19_1Limit(t *testing.T) {
	v := Begun(t, 400, 16)
	g := made(t, v)
	numbered(t, g, "a")
	Look(t, "hedge's Put", g.pairs.Put(manyKey(), []byte{0x7f, 0xff, 0xff, 0xfe}), api.OK)
	if n, e := g.Number("b"); n != 1<<31-1 || e != api.OK {
		t.Errorf("P19.1: Number(b): %d, %d", n, e)
	}
	before := standing(t, g)
	lookNo(t, g, "c", api.ErrLimit, api.OK)
	if Apart(before, standing(t, g)) != 0 {
		t.Error("P19.1: pairs change beside ErrLimit")
	}
	if s, e := g.Text(1<<31 - 1); s != "b" || e != api.OK {
		t.Errorf("P19.1: Text(2^31 - 1): %q, %d", s, e)
	}
	if n, e := g.Many(); n != 1<<31-1 || e != api.OK {
		t.Errorf("P19.1: Many: %d, %d", n, e)
	}
	lookNumber(t, g, []string{"a"}, "a")
}

// TestP19_2: numbers are gone with an Abort, and there with a Commit.
func TestP19_2(t *testing.T) {
	d := NewDrum(t, 400)
	v := Opened(t, d, 16)
	Look(t, "Begin", v.Begin(), api.OK)
	g := made(t, v)
	l := numbered(t, g, "a", "b")
	Again(t, v)
	numbered := lookNumber(t, g, l, "c")
	lookWhole(t, g, lookNumber(t, g, numbered, "d"))
	Undo(t, v)
	lookWhole(t, g, l)
	l = lookNumber(t, g, l, "d")
	l = lookNumber(t, g, l, "c")
	Look(t, "Commit", v.Commit(), api.OK)
	lookWhole(t, g, l)
	Look(t, "Crash", d.Crash(nil), api.OK)
	v = Opened(t, d, 16)
	LookOwned(t, v, lookWhole(t, at(t, v, 1), l))
	Look(t, "Begin", v.Begin(), api.OK)
	made(t, v)
	Undo(t, v)
	lookNoAt(t, v, 2, api.ErrArg)
}

// TestP19_1Memory: what is answered shares nothing.
func TestP19_1Memory(t *testing.T) {
	g := made(t, Begun(t, 800, 64))
	var texts []string
	for i := range 40 {
		texts = append(texts, strings.Repeat(string(rune('A'+i)), 60))
	}
	l := numbered(t, g, texts...)
	a, _ := g.Pages()
	b, _ := g.Pages()
	clear(a[:cap(a)])
	if c, _ := g.Pages(); len(b) < 2 || !slices.Equal(b, c) {
		t.Errorf("P19.1: answers of Pages share memory: %v, %v", b, c)
	}
	lookWhole(t, g, l)
}

// grown numbers more texts, so many in a transaction, till that is refused and aborted. It answers what is committed.
func grown(t *testing.T, v *vault.Vault, g *Gloss, many int, want api.Errno) []string {
	t.Helper()
	var l []string
	for {
		next := slices.Clone(l)
		for range many {
			s := strings.Repeat("p", 50) + string(rune('0'+len(next)))
			n, e := g.Number(s)
			if e != api.OK {
				if n != 0 {
					t.Fatalf("P19.1: Number: %d, %d", n, e)
				}
				Look(t, "P6: Number", e, want)
				Undo(t, v)
				return l
			}
			next = append(next, s)
		}
		l = next
		Again(t, v)
	}
}

// TestP6Full: ErrFull comes where all pages are taken; what was committed is there.
func TestP6Full(t *testing.T) {
	v := Begun(t, 500, 1024)
	g := made(t, v)
	Again(t, v)
	l := grown(t, v, g, 2, api.ErrFull)
	if len(l) < 30 {
		t.Errorf("P6: %d texts", len(l))
	}
	LookOwned(t, v, lookWhole(t, g, l))
	var others [][]int
	for v.Pages()-1 > len(v.Taken()) {
		others = append(others, lookWhole(t, made(t, v), nil))
	}
	if g, e := Make(v); g != nil || e != api.ErrFull {
		t.Errorf("P6: Make in a full vault: %v, %d", g, e)
	}
	LookOwned(t, v, append(others, lookWhole(t, g, l))...)
	Look(t, "P6: Drop", g.Drop(), api.OK)
	LookOwned(t, v, others...)
}

// TestP6Limit: ErrLimit comes of the changed pages of one transaction.
func TestP6Limit(t *testing.T) {
	v := Begun(t, 2000, 8)
	g := made(t, v)
	Again(t, v)
	if l := grown(t, v, g, 60, api.ErrLimit); len(l) != 0 {
		t.Errorf("P6: %d texts", len(l))
	}
	LookOwned(t, v, lookWhole(t, g, nil))
	l := numbered(t, g, "a", "b", "c")
	Again(t, v)
	LookOwned(t, v, lookWhole(t, g, l))
}

// TestP1Foreign: a hedge in which something else stands: the calls end, and beside an error there is nothing.
func TestP1Foreign(t *testing.T) {
	dice := sample.Dice(192)
	forms := 0
	for range 300 {
		v := Begun(t, 800, 64)
		h, e := hedge.Make(v)
		Look(t, "hedge's Make", e, api.OK)
		for range dice.Under(12) {
			k := dice.Of("t", "n", "m", "x") + dice.Of("", "", "a", "\x00\x00\x00\x00\x00\x00\x00\x01", "\x00\x00\x00\x01")
			value := dice.Of("", "\x00\x00\x00\x01", "\xff\xff\xff\xff", "\x7f\xff\xff\xff", "\x00\x00\x00\x00\x01", strings.Repeat("v", 900))
			Look(t, "hedge's Put", h.Put([]byte(k), []byte(value)), api.OK)
		}
		g := at(t, v, 1)
		for _, s := range []string{"", "a", "b", long} {
			n, ok, e := g.Find(s)
			m, f := g.Number(s)
			if e != api.OK && (n != 0 || ok) || f != api.OK && m != 0 || ok && (m != n || f != api.OK) {
				t.Fatalf("Find(%.20q): %d, %v, %d; Number: %d, %d", s, n, ok, e, m, f)
			}
			if e == api.ErrForm {
				forms++
			}
		}
		for n := range 3 {
			if s, e := g.Text(n); e != api.OK && s != "" {
				t.Fatalf("Text(%d): %q, %d", n, s, e)
			}
		}
		if n, e := g.Many(); e != api.OK && n != 0 {
			t.Fatalf("Many: %d, %d", n, e)
		}
		LookOwned(t, v, lookPages(t, g))
		Look(t, "Drop", g.Drop(), api.OK)
	}
	if forms < 30 {
		t.Errorf("%d times ErrForm", forms)
	}
}
