package hedge

import (
	"maps"
	"math"
	"slices"
	"strings"
	"testing"

	"lectern/api"
	"lectern/drum"
	. "lectern/rig"
	"lectern/sample"
	"lectern/vault"
)

// forest is what stands in the hedges of a vault, by their roots.
type forest map[int]pairs

// clone is a copy of a forest.
func (f forest) clone() forest {
	c := forest{}
	for root, m := range f {
		c[root] = maps.Clone(m)
	}
	return c
}

// isIn says whether a forest is what stands in a vault, and nothing else does.
func (f forest) isIn(t *testing.T, v *vault.Vault) bool {
	t.Helper()
	var all []int
	for root, m := range f {
		h, e := At(v, root)
		if e != api.OK {
			return false
		}
		l, e := h.From(nil, math.MaxInt)
		if e != api.OK || !samePairs(l, m.from("", math.MaxInt)) {
			return false
		}
		all = append(all, lookPages(t, h, m)...)
	}
	slices.Sort(all)
	return slices.Equal(all, v.Taken())
}

// act is a thing that is done in a vault; what it changes is told by the forest. It answers ErrSum, if it finds something else than the forest says, or something beside an error.
type act func(v *vault.Vault, f forest) api.Errno

// grown makes a hedge.
func grown(v *vault.Vault, f forest) api.Errno {
	h, e := Make(v)
	if e != api.OK {
		if h != nil {
			return api.ErrSum
		}
		return e
	}
	f[h.Root()] = pairs{}
	return api.OK
}

// inside is an act with the hedge of a root.
func inside(root int, do func(h *Hedge, m pairs) api.Errno) act {
	return func(v *vault.Vault, f forest) api.Errno {
		h, e := At(v, root)
		if e != api.OK {
			if h != nil {
				return api.ErrSum
			}
			return e
		}
		return do(h, f[root])
	}
}

// puts puts some pairs.
func puts(root int, value string, keys ...string) act {
	return inside(root, func(h *Hedge, m pairs) api.Errno {
		for _, k := range keys {
			if e := h.Put([]byte(k), []byte(value)); e != api.OK {
				return e
			}
			m[k] = value
		}
		return api.OK
	})
}

// deletes takes some keys out.
func deletes(root int, keys ...string) act {
	return inside(root, func(h *Hedge, m pairs) api.Errno {
		for _, k := range keys {
			ok, e := h.Delete([]byte(k))
			_, had := m[k]
			if ok != (had && e == api.OK) {
				return api.ErrSum
			}
			if e != api.OK {
				return e
			}
			delete(m, k)
		}
		return api.OK
	})
}

// reads reads in all ways.
func reads(root int) act {
	return inside(root, func(h *Hedge, m pairs) api.Errno {
		for _, k := range append(slices.Sorted(maps.Keys(m)), "none") {
			value, ok, e := h.Get([]byte(k))
			want, had := m[k]
			if e != api.OK {
				want, had = "", false
			}
			if string(value) != want || ok != had {
				return api.ErrSum
			}
			if e != api.OK {
				return e
			}
		}
		l, e := h.From(nil, math.MaxInt)
		if e == api.OK && !samePairs(l, m.from("", math.MaxInt)) || e != api.OK && len(l) > 0 {
			return api.ErrSum
		}
		if e != api.OK {
			return e
		}
		p, e := h.Pages()
		if (len(p) > 0) != (e == api.OK) {
			return api.ErrSum
		}
		return e
	})
}

// drops drops a hedge.
func drops(root int) act {
	return func(v *vault.Vault, f forest) api.Errno {
		if e := inside(root, func(h *Hedge, _ pairs) api.Errno { return h.Drop() })(v, f); e != api.OK {
			return e
		}
		delete(f, root)
		return api.OK
	}
}

// row is so many keys.
func row(prefix string, count int) []string {
	var l []string
	for i := range count {
		l = append(l, prefix+string(rune('a'+i)))
	}
	return l
}

// transactions is a script: hedges come, grow, shrink and go; each transaction is committed, but for those without an end.
func transactions() [][]act {
	long, longer := strings.Repeat("w", 700), strings.Repeat("z", 1300)
	k := strings.Repeat("k", 120)
	return [][]act{
		{grown, puts(1, "one", "a", "b")},
		{grown, puts(1, long, "c"), puts(2, strings.Repeat("v", 90), row("b", 12)...), reads(1), reads(2)},
		{puts(1, longer, "c"), deletes(2, row("b", 7)...), nil},
		{puts(1, "x", "c"), deletes(2, "bk", "bj", "none"), reads(2)},
		{puts(2, "", row(k, 9)...), reads(2), puts(1, longer, "a", "d")},
		{deletes(2, row("b", 12)...), deletes(1, "a"), reads(2)},
		{drops(2), grown, reads(1), nil},
		{drops(2), grown, puts(1, long, row(k, 4)...)},
		{reads(1), puts(2, "again", "a"), deletes(1, row(k, 4)...)},
	}
}

// run does the script, up to its first ErrDown. It answers what stands, and what stands if the Commit that was cut is done all the same, nil if none was.
func run(t *testing.T, v *vault.Vault) (standing, cut forest) {
	t.Helper()
	standing = forest{}
	for i, l := range transactions() {
		if e := v.Begin(); e != api.OK {
			t.Fatalf("Begin: %d", e)
		}
		f, end := standing.clone(), v.Commit
		for j, a := range l {
			if a == nil {
				end, f = v.Abort, standing
				continue
			}
			switch e := a(v, f); e {
			case api.OK:
			case api.ErrDown:
				return standing, nil
			default:
				t.Fatalf("P18.2: %d of transaction %d: %d", j, i, e)
			}
		}
		switch e := end(); e {
		case api.OK:
			standing = f
		case api.ErrDown:
			return standing, f
		default:
			t.Fatalf("the end of transaction %d: %d", i, e)
		}
	}
	return standing, nil
}

// lookFound looks that what an opening finds is one of two forests, or the one if there is no other.
func lookFound(t *testing.T, d *drum.Drum, standing, cut forest, fuse int) {
	t.Helper()
	v := Opened(t, d, 16)
	if !standing.isIn(t, v) && (cut == nil || !cut.isIn(t, v)) {
		t.Fatalf("P4: what is found behind a crash at step %d is neither what stood nor what was committed", fuse)
	}
}

// TestP4: the power goes at each step; with few frames, so that reading does steps too.
func TestP4(t *testing.T) {
	const sectors = 700
	d := NewDrum(t, sectors)
	v := Opened(t, d, 24)
	standing, _ := run(t, v)
	lookFound(t, d, standing, nil, -1)
	steps, cuts := d.Steps(), 0
	dice := sample.Dice(186)
	for fuse := range steps {
		d := NewDrum(t, sectors)
		v := Opened(t, d, 24)
		Look(t, "Fuse", d.Fuse(fuse), api.OK)
		standing, cut := run(t, v)
		if cut != nil {
			cuts++
		}
		for way := range 4 {
			keep := make([]bool, d.Loose())
			for i := range keep {
				keep[i] = way == 1 || way > 1 && dice.OneIn(2)
			}
			c := d.Clone()
			Look(t, "Crash", c.Crash(keep), api.OK)
			lookFound(t, c, standing, cut, fuse)
		}
	}
	if cuts < 100 {
		t.Errorf("%d Commits were cut", cuts)
	}
}

// TestP4Reading: what is read while the power goes is right, or nothing beside ErrDown.
func TestP4Reading(t *testing.T) {
	d := NewDrum(t, 4000)
	v := Opened(t, d, 512)
	Look(t, "Begin", v.Begin(), api.OK)
	h := made(t, v)
	m := filled(t, h, 120)
	Look(t, "Commit", v.Commit(), api.OK)
	Look(t, "Checkpoint", v.Checkpoint(), api.OK)
	downs := 0
	for fuse := 0; fuse < 2000; fuse += 13 {
		c := d.Clone()
		v := Opened(t, c, 4)
		Look(t, "Fuse", c.Fuse(fuse), api.OK)
		switch e := reads(1)(v, forest{1: m}); e {
		case api.OK:
		case api.ErrDown:
			downs++
			lookNoAt(t, v, 1, api.ErrDown)
		default:
			t.Fatalf("P18.2: reading, cut at step %d: %d", fuse, e)
		}
	}
	if downs < 100 {
		t.Errorf("%d times the power went", downs)
	}
}
