package hedge

import (
	"bytes"
	"maps"
	"math"
	"slices"
	"testing"

	"lectern/api"
	"lectern/octet"
	. "lectern/rig"
	"lectern/sample"
	"lectern/vault"
)

// Pages that no hedge wrote: the calls end, and beside an error there is nothing.

// tried does all that can be done with a hedge whose pages are spoilt.
func tried(t *testing.T, v *vault.Vault, root int, keys ...string) {
	t.Helper()
	h, e := At(v, root)
	if e != api.OK {
		if h != nil {
			t.Fatalf("At: %v, %d", h, e)
		}
		h = &Hedge{vault: v, root: root}
	}
	for _, k := range keys {
		if value, ok, e := h.Get([]byte(k)); e != api.OK && (len(value) > 0 || ok) {
			t.Fatalf("Get: %q, %v, %d", value, ok, e)
		}
		if l, e := h.From([]byte(k), 30); e != api.OK && len(l) > 0 {
			t.Fatalf("From: %d pairs, %d", len(l), e)
		}
		for _, size := range []int{9 * len(k), 0} {
			if ok, e := h.Delete([]byte(k)); e != api.OK && ok {
				t.Fatalf("Delete: %v, %d", ok, e)
			}
			h.Put([]byte(k), make([]byte, size))
		}
	}
	if l, e := h.Pages(); e != api.OK && len(l) > 0 {
		t.Fatalf("Pages: %v, %d", l, e)
	}
	h.Drop()
}

// TestP1Spoilt: bytes of a hedge's pages are turned, and pages stand in the place of others.
func TestP1Spoilt(t *testing.T) {
	for s := range style(5) {
		v := Begun(t, 8000, 900)
		h := made(t, v)
		made(t, v)
		m := pairs{}
		dice := sample.Dice(187 + s)
		for range 150 {
			k, value := s.key(&dice), s.value(&dice)
			put(t, h, k, value)
			m[k] = value
		}
		Look(t, "Commit", v.Commit(), api.OK)
		pages := v.Taken()
		keys := slices.Sorted(maps.Keys(m))
		forms := 0
		for range 600 {
			Look(t, "Begin", v.Begin(), api.OK)
			for range 1 + dice.Under(3) {
				n := pages[dice.Under(min(len(pages), 1+dice.Under(40)))]
				b, e := v.Get(n)
				Look(t, "vault's Get", e, api.OK)
				switch dice.Under(6) {
				case 0:
					b, e = v.Get(pages[dice.Under(len(pages))])
					Look(t, "vault's Get", e, api.OK)
				case 1:
					copy(b[dice.Under(490):], octet.Bytes(uint64(dice.Under(60)), 4))
				case 2:
					b[dice.Under(3)] = byte(dice.Under(256))
				default:
					for range 1 + dice.Under(4) {
						b[dice.Under(len(b))] = byte(dice.Under(256))
					}
				}
				Look(t, "vault's Put", v.Put(n, b), api.OK)
			}
			if _, e := h.From(nil, math.MaxInt); e == api.ErrForm {
				forms++
			}
			tried(t, v, 1, keys[dice.Under(len(keys))], s.key(&dice), keys[dice.Under(len(keys))], keys[0])
			Look(t, "Abort", v.Abort(), api.OK)
		}
		lookWhole(t, h, m)
		if forms < 100 {
			t.Errorf("%d times ErrForm", forms)
		}
	}
}

// laid is a branch with such kids.
func laid(kids ...int) []byte {
	p := node{}
	for i, n := range kids {
		p.cells = append(p.cells, kidCell([]byte{byte(i)}[:min(i, 1)], n))
	}
	return p.bytes()
}

// written is a vault with six pages that are taken, in which such rows of bytes stand, in a transaction.
func written(t *testing.T, rows ...[]byte) *vault.Vault {
	t.Helper()
	v := Begun(t, 800, 64)
	for i := range 6 {
		if n, e := v.Alloc(); n != i+1 || e != api.OK {
			t.Fatalf("vault's Alloc: %d, %d", n, e)
		}
		if i < len(rows) {
			Look(t, "vault's Put", v.Put(i+1, rows[i]), api.OK)
		}
	}
	Again(t, v)
	return v
}

// TestP1Round: pages that go round, and pages that aren't there.
func TestP1Round(t *testing.T) {
	many := slices.Repeat([]int{2}, 60)
	longCell := func(size, page int) []byte {
		return slices.Concat([]byte{longMark}, octet.Bytes(uint64(size), 4), octet.Bytes(uint64(page), 4))
	}
	leaf := node{true, []cell{{[]byte("a"), []byte{1, 'x'}}, {[]byte("b"), longCell(70000, 3)}}}.bytes()
	last := node{true, []cell{{[]byte("z"), []byte{0}}}}.bytes()
	for _, rows := range [][][]byte{
		{laid(1)}, {laid(1, 1)}, {laid(2), laid(1)}, {laid(2, 3), laid(1, 3), laid(2, 1)}, {laid(2), laid(3), laid(2)},
		{laid(9)}, {laid(0)}, {laid(0, 0)}, {laid(math.MaxUint32)}, {laid(2, 9), leaf}, {laid(2, 2), leaf}, {laid(9, 2), leaf},
		{laid(many...), laid(many...)}, {laid(many...), leaf}, {laid(2, 3), leaf, laid(4), leaf}, {laid(2, 3, 4), laid(1), leaf, laid(3)}, {laid(2, 3), laid(4), last, leaf}, {laid(3, 2), laid(4), last, leaf},
		{leaf, nil, octet.Bytes(3, 4)}, {leaf, nil, octet.Bytes(2, 4), octet.Bytes(3, 4)}, {leaf, nil, octet.Bytes(99, 4)}, {leaf},
	} {
		v := written(t, rows...)
		for _, k := range []string{"a", "b", "\x00", "\x01\x00", "z"} {
			tried(t, v, 1, k, "a", "\x00\x00")
			Look(t, "Abort", v.Abort(), api.OK)
			Look(t, "Begin", v.Begin(), api.OK)
		}
	}
}

// TestP18_1NoKid: a kid, or a page of a long value, that isn't taken, is no wrong argument.
func TestP18_1NoKid(t *testing.T) {
	h := at(t, written(t, laid(2, 9), node{isLeaf: true}.bytes()), 1)
	lookNoGet(t, h, "z", api.ErrForm)
	lookNoFrom(t, h, "", 1, api.ErrForm)
	h = at(t, written(t, node{true, []cell{{[]byte("a"), []byte{longMark, 0, 0, 0, 97, 0, 0, 0, 7}}}}.bytes()), 1)
	lookNoGet(t, h, "a", api.ErrForm)
	lookNoFrom(t, h, "a", 1, api.ErrForm)
	lookNoPut(t, h, "a", "v", api.ErrForm)
	lookNoDelete(t, h, "a", api.ErrForm)
	Look(t, "Drop", h.Drop(), api.ErrForm)
}

// TestP18_1NoHedge: pages in which no node stands.
func TestP18_1NoHedge(t *testing.T) {
	for i, row := range [][]byte{
		nil, {leafKind + 2}, {leafKind + 2, 1, 0, 0, 0, 0, 2}, {0, 1, 1, 'a', 0}, {branchKind}, {leafKind, 255}, {leafKind, 1}, {leafKind, 1, 129}, {leafKind, 1, 255},
		{branchKind, 1, 1, 'a', 0, 0, 0, 2}, {branchKind, 2, 0, 0, 0, 0, 2, 0, 0, 0, 0, 3}, {leafKind, 1, 0, 0}, {leafKind, 1, 1, 'a', 97}, {leafKind, 1, 1, 'a', 254},
		{leafKind, 2, 1, 'b', 0, 1, 'a', 0}, {leafKind, 2, 1, 'a', 0, 1, 'a', 0},
		{leafKind, 1, 1, 'a', 255, 0, 0, 0, 96, 0, 0, 0, 2}, {leafKind, 1, 1, 'a', 255, 0, 1, 0x11, 0x71, 0, 0, 0, 2},
		slices.Concat([]byte{leafKind, 4}, bytes.Repeat([]byte{128}, 494)), slices.Concat([]byte{leafKind, 1, 129}, bytes.Repeat([]byte{1}, 400)),
	} {
		v := written(t, row)
		if h, e := At(v, 1); h != nil || e != api.ErrForm {
			t.Errorf("P18.1: At of no hedge's page %d: %v, %d", i, h, e)
		}
		tried(t, v, 1, "a", "\x00")
	}
}
