package base

import (
	"maps"
	"strings"
	"testing"

	"lectern/api"
	"lectern/drum"
	"lectern/hedge"
	. "lectern/rig"
	. "lectern/sample"
	"lectern/sheet"
	"lectern/shelf"
	"lectern/vault"
)

// Drums on which something else stands: Open answers the error of the layers below, and makes no base of them.

// foreign is a drum in whose vault this was done, in one transaction.
func foreign(t *testing.T, do func(v *vault.Vault)) *drum.Drum {
	t.Helper()
	d := NewDrum(t, 600)
	v := Opened(t, d, 64)
	Look(t, "Begin", v.Begin(), api.OK)
	do(v)
	Look(t, "Commit", v.Commit(), api.OK)
	return d
}

// pages takes so many pages of a vault.
func pages(t *testing.T, v *vault.Vault, count int) {
	t.Helper()
	for range count {
		_, e := v.Alloc()
		Look(t, "Alloc", e, api.OK)
	}
}

// namesWith is the hedge of names with such a value under r.
func namesWith(t *testing.T, v *vault.Vault, roots string) {
	t.Helper()
	h, e := hedge.Make(v)
	Look(t, "hedge's Make", e, api.OK)
	Look(t, "hedge's Put", h.Put([]byte("r"), []byte(roots)), api.OK)
}

// TestP21_1Foreign: what else may stand on a drum.
func TestP21_1Foreign(t *testing.T) {
	noise := NewDrum(t, 600)
	Look(t, "Write", noise.Write(600/4+2, []byte("noise")), api.OK)
	Look(t, "Flush", noise.Flush(), api.OK)
	lookNoOpen(t, noise, 8, api.ErrForm)
	for want, l := range map[api.Errno][]func(v *vault.Vault){
		api.ErrForm: {
			func(v *vault.Vault) { pages(t, v, 1) },
			func(v *vault.Vault) { pages(t, v, 8) },
			func(v *vault.Vault) { _, e := hedge.Make(v); Look(t, "hedge's Make", e, api.OK) },
			func(v *vault.Vault) { _, e := shelf.Make(v); Look(t, "shelf's Make", e, api.OK) },
			func(v *vault.Vault) { namesWith(t, v, "") },
			func(v *vault.Vault) { namesWith(t, v, "\x00\x00\x00\x02\x00\x00\x00"); pages(t, v, 3) },
			func(v *vault.Vault) { namesWith(t, v, "\x00\x00\x00\x02\x00\x00\x00\x03\x00"); pages(t, v, 3) },
			func(v *vault.Vault) { namesWith(t, v, "\x00\x00\x00\x02\x00\x00\x00\x03"); pages(t, v, 3) },
		},
		api.ErrArg: {
			func(v *vault.Vault) { pages(t, v, 2); Look(t, "Free", v.Free(1), api.OK) },
			func(v *vault.Vault) { namesWith(t, v, "\x00\x00\x00\x02\x00\x00\x00\x03") },
			func(v *vault.Vault) { namesWith(t, v, "\x00\x00\x00\x01\xff\xff\xff\xff") },
		},
	} {
		for i, do := range l {
			d := foreign(t, do)
			before := Image(t, Opened(t, d.Clone(), 64))
			lookNoOpen(t, d, 8, want)
			lookNoOpen(t, d, 64, want)
			if after := Image(t, Opened(t, d, 64)); !maps.Equal(before, after) {
				t.Errorf("P21.1: an Open that answers %d changes drum %d", want, i)
			}
		}
	}
}

// TestP21_1Emptied: a vault in which no page is taken any more is as one in which none ever was.
func TestP21_1Emptied(t *testing.T) {
	d := foreign(t, func(v *vault.Vault) { pages(t, v, 3) })
	v := Opened(t, d, 64)
	Look(t, "Begin", v.Begin(), api.OK)
	for n := range 3 {
		Look(t, "Free", v.Free(n+1), api.OK)
	}
	Look(t, "Commit", v.Commit(), api.OK)
	b := opened(t, d, 8)
	lookNames(t, b)
	lookPages(t, b)
}

// TestForms: names that no base wrote.
func TestForms(t *testing.T) {
	b := begun(t, 2000, 200)
	puts(t, b, "a", "<x/>", "b", "<y/>")
	again(t, b)
	Look(t, "hedge's Put", b.names.Put(nameKey("a"), []byte("123")), api.OK)
	lookUnread(t, b, "a", api.ErrForm)
	lookNoEdit(t, b, "a", api.ErrForm)
	Look(t, "Drop", b.Drop("a"), api.ErrForm)
	lookPut(t, b, "a", "<x/>", 0, api.ErrForm)
	lookPut(t, b, "c", "<x/>", 0, api.ErrForm)
	if l, e := b.Names(); len(l) > 0 || e != api.ErrForm {
		t.Errorf("Names: %v, %d", l, e)
	}
	lookExport(t, b, "b", "<y></y>\n")
	Look(t, "hedge's Put", b.names.Put(nameKey("a"), []byte{0, 0, 0, 9}), api.OK) // no document has the number 9
	lookUnread(t, b, "a", api.ErrForm)
	lookNames(t, b, "a", "b")
	Look(t, "Abort", b.Abort(), api.OK)
	lookExport(t, b, "a", "<x></x>\n")
}

// tried does all that can be done with a base: beside an error there is nothing.
func tried(t *testing.T, dice *Dice, b *Base) map[api.Errno]int {
	t.Helper()
	counts := map[api.Errno]int{}
	told := func(what string, e api.Errno, isEmpty bool) {
		t.Helper()
		if e != api.OK && !isEmpty {
			t.Fatalf("%s: %d, and something beside it", what, e)
		}
		counts[e]++
	}
	l, e := b.Names()
	told("Names", e, len(l) == 0)
	n, e := b.Pages()
	told("Pages", e, len(n) == 0)
	for _, name := range []string{"a", "b", "none"} {
		d, e := b.Tree(name)
		told("Tree", e, d.Kind == 0 && len(d.Kids) == 0)
		text, e := b.Export(name)
		told("Export", e, len(text) == 0)
		trails, at, e := b.Pick(name, "//node()")
		told("Pick", e, len(trails) == 0 && at == 0)
		told("Edit", b.Edit(name, DrawnEdit(dice, Doc(Elem("a", Elem("b"), Text("c"))))), true)
		if dice.OneIn(3) {
			told("Drop", b.Drop(name), true)
		}
		if dice.OneIn(3) {
			at, e := b.Put(name, []byte("<x><y/></x>"))
			told("Put", e, at == 0)
		}
	}
	return counts
}

// TestP1Spoilt: bytes of a base's pages are turned, in memory and on the drum.
func TestP1Spoilt(t *testing.T) {
	dice := Dice(214)
	d := NewDrum(t, 2000)
	b := opened(t, d, 100)
	Look(t, "Begin", b.Begin(), api.OK)
	for _, name := range []string{"a", "b", "c"} {
		puts(t, b, name, "<a k='"+strings.Repeat("v", 200)+"'>"+strings.Repeat("<b/>t", 20)+"</a>")
	}
	Look(t, "Commit", b.Commit(), api.OK)
	v, _ := b.Shelf()
	taken := v.Taken()
	counts, opens := map[api.Errno]int{}, map[api.Errno]int{}
	for range 400 {
		c := d.Clone()
		v := Opened(t, c, 100)
		Look(t, "Begin", v.Begin(), api.OK)
		for range 1 + dice.Under(4) {
			n := taken[dice.Under(len(taken))]
			if dice.OneIn(2) {
				n = taken[dice.Under(3)]
			}
			p, e := v.Get(n)
			Look(t, "Get", e, api.OK)
			p[dice.Under(1+dice.Under(len(p)))] = byte(dice.Under(256))
			Look(t, "Put", v.Put(n, p), api.OK)
		}
		Look(t, "Commit", v.Commit(), api.OK)
		b, e := Open(c, 100)
		opens[e]++
		if e != api.OK {
			if b != nil {
				t.Fatalf("P21.1: Open: %v, %d", b, e)
			}
			continue
		}
		Look(t, "Begin", b.Begin(), api.OK)
		for e, n := range tried(t, &dice, b) {
			counts[e] += n
		}
	}
	if opens[api.OK] < 100 || opens[api.ErrForm] < 20 || counts[api.ErrForm] < 100 || counts[api.OK] < 500 {
		t.Errorf("Open: %v; the calls behind it: %v", opens, counts)
	}
}

// TestSums: a sector of a page is turned on the drum: where that page is read, the answer is ErrSum.
func TestSums(t *testing.T) {
	d, _ := four(t)
	b := opened(t, d.Clone(), 100)
	plan, e := sheet.Draft(d.Sectors())
	Look(t, "sheet's Draft", e, api.OK)
	for _, n := range append(lookPages(t, b), 0) {
		c := d.Clone()
		Look(t, "Write", c.Write(plan.Base+8*n+n%8, []byte("noise")), api.OK)
		b, e := Open(c, 100)
		if e == api.OK {
			_, e = b.Pages()
		}
		Look(t, "Open and Pages", e, api.ErrSum)
	}
}
