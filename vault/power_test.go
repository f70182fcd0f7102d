package vault

import (
	"maps"
	"slices"
	"testing"

	"lectern/api"
	"lectern/drum"
	. "lectern/forge"
	"lectern/sample"
)

// told is what a vault's holder knows behind calls: the states that an opening may find.
type told struct {
	standing state // behind the transactions whose Commit was answered OK
	cut      state // behind one more, whose Commit was answered ErrDown; nil, if there is none
}

// has says whether an opening may find s.
func (k told) has(s state) bool {
	return maps.Equal(s, k.standing) || k.cut != nil && maps.Equal(s, k.cut)
}

// act is a thing that is done with a vault: what changes in a transaction is told by the state.
type act func(v *Vault, now state) api.Errno

func alloc(v *Vault, now state) api.Errno {
	n, e := v.Alloc()
	if e == api.OK {
		now[n] = Whole("")
	}
	return e
}

func put(n int, p string) act {
	return func(v *Vault, now state) api.Errno {
		e := v.Put(n, []byte(p))
		if e == api.OK {
			now[n] = Whole(p)
		}
		return e
	}
}

func free(n int) act {
	return func(v *Vault, now state) api.Errno {
		e := v.Free(n)
		if e == api.OK {
			delete(now, n)
		}
		return e
	}
}

func get(n int) act {
	return func(v *Vault, now state) api.Errno {
		p, e := v.Get(n)
		if e == api.OK && string(p) != now[n] {
			return api.ErrSum
		}
		return e
	}
}

// script is transactions, each some acts and how it ends; one without an end is a checkpoint.
type script []struct {
	acts []act
	end  func(v *Vault) api.Errno
}

// ran is what is known behind a script, up to its first ErrDown.
func ran(t *testing.T, v *Vault, l script, known state) told {
	t.Helper()
	k := told{standing: maps.Clone(known)}
	for i, x := range l {
		if x.end == nil {
			if e := v.Checkpoint(); e == api.ErrDown {
				return k
			} else if e != api.OK {
				t.Fatalf("P17.4: Checkpoint %d: %d", i, e)
			}
			continue
		}
		Look(t, "Begin", v.Begin(), api.OK)
		now := maps.Clone(k.standing)
		for j, a := range x.acts {
			if e := a(v, now); e == api.ErrDown {
				return k
			} else if e != api.OK {
				t.Fatalf("P17.2: %d of transaction %d: %d", j, i, e)
			}
		}
		switch e := x.end(v); e {
		case api.OK:
			k.standing = now
		case errAborted:
		case api.ErrDown:
			k.cut = now
			return k
		default:
			t.Fatalf("P17.3: Commit %d: %d", i, e)
		}
	}
	return k
}

// errAborted is what an Abort that is OK tells.
const errAborted api.Errno = -1

func commit(v *Vault) api.Errno { return v.Commit() }

func abort(v *Vault) api.Errno {
	if e := v.Abort(); e != api.OK {
		return e
	}
	return errAborted
}

// fixed is a script with groups of several sizes, pages that come and go, and checkpoints of both kinds, for a log of 50 sectors; a greater one needs no checkpoint in a Commit.
func fixed() script {
	return script{
		{[]act{alloc, alloc, put(1, "a"), put(2, "b")}, commit},
		{[]act{put(1, "aa")}, commit},
		{[]act{put(2, "no"), free(1)}, abort},
		{[]act{free(1), put(2, "bb"), get(2)}, commit}, // makes a checkpoint
		{[]act{alloc, alloc, put(3, string(row(496)))}, commit},
		{nil, nil},
		{[]act{get(1), get(3)}, commit},
		{[]act{free(3)}, commit},
		{[]act{put(1, string(row(300))), put(2, string(row(200)))}, commit},
		{[]act{free(1), free(2)}, commit}, // makes a checkpoint
		{[]act{alloc, put(1, "z")}, commit},
	}
}

// keeps is ways to keep some of so many Writes: none, all and some drawn ones; all ways, if they are few.
func keeps(dice *sample.Dice, loose, drawn int) [][]bool {
	var l [][]bool
	if loose <= 4 {
		for v := range 1 << loose {
			l = append(l, bits(v, loose))
		}
		return l
	}
	l = append(l, nil, slices.Repeat([]bool{true}, loose))
	for range drawn {
		l = append(l, drawnKeep(dice, loose))
	}
	return l
}

// lookFound opens the vault on a drum that crashed, and looks that it finds a state that it may find, and the next opening the same.
func lookFound(t *testing.T, d *drum.Drum, k told) state {
	t.Helper()
	v := opened(t, d, 4)
	s := stateOf(t, v)
	if !k.has(s) {
		t.Fatalf("P17.6: found %q, neither %q nor %q", shown(s), shown(k.standing), shown(k.cut))
	}
	Look(t, "Crash", d.Crash(nil), api.OK)
	if again := stateOf(t, opened(t, d, 4)); !maps.Equal(again, s) {
		t.Fatalf("P17.6: found %q, and then %q", shown(s), shown(again))
	}
	return s
}

// TestP17_6Cut: the power goes at each step of a script, and the drum keeps what it likes.
func TestP17_6Cut(t *testing.T) {
	dice := sample.Dice(1761)
	found := map[bool]int{}
	for fuse := 0; ; fuse++ {
		d := NewDrum(t, 200)
		v := opened(t, d, 6)
		Look(t, "Fuse", d.Fuse(fuse), api.OK)
		k := ran(t, v, fixed(), state{})
		isCut := d.Down()
		if isCut {
			lookRefused(t, v, api.ErrDown)
		}
		for _, keep := range keeps(&dice, d.Loose(), 60) {
			s := lookFound(t, crashed(t, d, keep), k)
			if k.cut != nil {
				found[maps.Equal(s, k.cut)]++
			}
		}
		if !isCut {
			break
		}
	}
	if found[true] < 100 || found[false] < 100 {
		t.Errorf("P17.6: %d Commits that were cut were there, %d not", found[true], found[false])
	}
}

// TestP17_6CutOpen: the power goes at each step of an opening: what the next one finds is what one that isn't cut finds.
func TestP17_6CutOpen(t *testing.T) {
	dice := sample.Dice(1762)
	for i := range 2 * (len(fixed()) + 1) {
		d := NewDrum(t, 200+i%2*400) // on the greater one several groups stand side by side
		k := ran(t, opened(t, d, 6), fixed()[:i/2], state{})
		Look(t, "Crash", d.Crash(drawnKeep(&dice, d.Loose())), api.OK)
		want := lookFound(t, d.Clone(), k)
		isDown := true
		for fuse := 0; isDown; fuse++ {
			c := d.Clone()
			Look(t, "Fuse", c.Fuse(fuse), api.OK)
			v, e := Open(c, 6)
			isDown = c.Down()
			if isDown && (v != nil || e != api.ErrDown) {
				t.Fatalf("P17.1: Open behind %d steps: %v, %d", fuse, v, e)
			}
			for _, keep := range keeps(&dice, c.Loose(), 16) {
				if s := lookFound(t, crashed(t, c, keep), k); !maps.Equal(s, want) {
					t.Fatalf("P17.6: behind an Open that was cut: %q, not %q", shown(s), shown(want))
				}
			}
		}
	}
}

// TestP17_6New: the first opening of a drum is cut.
func TestP17_6New(t *testing.T) {
	isDown := true
	for fuse := 0; isDown; fuse++ {
		d := NewDrum(t, 100)
		Look(t, "Fuse", d.Fuse(fuse), api.OK)
		v, e := Open(d, 4)
		isDown = d.Down()
		if isDown && (v != nil || e != api.ErrDown) {
			t.Fatalf("P17.1: Open behind %d steps: %v, %d", fuse, v, e)
		}
		for kept := range 1 << d.Loose() {
			lookFound(t, crashed(t, d, bits(kept, d.Loose())), told{standing: state{}})
		}
	}
}

// drawnScript is transactions that a vault with so many frames and pages may do.
func drawnScript(dice *sample.Dice, s state, frames, pages int) script {
	var l script
	now := maps.Clone(s)
	for range dice.Under(12) {
		if dice.OneIn(8) {
			l = append(l, script{{}}...)
			continue
		}
		before := maps.Clone(now)
		var acts []act
		for range dice.Under(frames - 1) { // each changes one page more, and the map is there from the begin
			taken := slices.Sorted(maps.Keys(now))
			switch {
			case len(taken) < pages-1 && (len(taken) < 2 || dice.OneIn(3)):
				n := 1
				for now[n] != "" {
					n++
				}
				now[n] = Whole("")
				acts = append(acts, alloc)
			case dice.OneIn(4):
				n := taken[dice.Under(len(taken))]
				delete(now, n)
				acts = append(acts, free(n))
			default:
				n, p := taken[dice.Under(len(taken))], string(row(1+dice.Under(496)))
				now[n] = Whole(p)
				acts = append(acts, put(n, p), get(n))
			}
		}
		end := commit
		if dice.OneIn(6) {
			end, now = abort, before
		}
		l = append(l, script{{acts, end}}...)
	}
	return l
}

// TestP17_6Drawn: crash behind crash, in openings too.
func TestP17_6Drawn(t *testing.T) {
	dice := sample.Dice(1763)
	cuts, opens := 0, 0
	for range 150 {
		sectors := 220 + dice.Under(400) // room for a group of five pages
		d := NewDrum(t, sectors)
		k := told{standing: state{}}
		for range 12 {
			for dice.OneIn(2) {
				Look(t, "Fuse", d.Fuse(dice.Under(sectors/2)), api.OK)
				if v, e := Open(d, 4); e == api.ErrDown {
					opens++
				} else if v == nil || e != api.OK {
					t.Fatalf("P17.1: Open: %v, %d", v, e)
				}
				Look(t, "Crash", d.Crash(drawnKeep(&dice, d.Loose())), api.OK)
			}
			frames := 4 + dice.Under(3)
			v := opened(t, d, frames)
			s := stateOf(t, v)
			if !k.has(s) {
				t.Fatalf("P17.6: found %q, neither %q nor %q", shown(s), shown(k.standing), shown(k.cut))
			}
			Look(t, "Fuse", d.Fuse(dice.Under(400)), api.OK)
			k = ran(t, v, drawnScript(&dice, s, frames, v.Pages()), s)
			if k.cut != nil {
				cuts++
			}
			Look(t, "Crash", d.Crash(drawnKeep(&dice, d.Loose())), api.OK)
			if v.fault() == api.ErrDown {
				lookRefused(t, v, api.ErrDown) // the power came back, but not for this vault
			}
		}
	}
	if cuts < 100 || opens < 100 {
		t.Errorf("P17.6: %d Commits were cut, %d openings", cuts, opens)
	}
}

// TestErrDown: a Get whose step is cut ends the vault, and so does each other call; the transaction that was open is gone.
func TestErrDown(t *testing.T) {
	for _, l := range []struct {
		what string
		act  func(v *Vault) api.Errno
	}{
		{"Get", func(v *Vault) api.Errno { return get(2)(v, state{}) }},
		{"Commit", commit},
	} {
		d := NewDrum(t, 200)
		v := allocated(t, d, 4, 2)
		Look(t, "Checkpoint", v.Checkpoint(), api.OK)
		v = opened(t, d, 4)
		Look(t, "Begin", v.Begin(), api.OK)
		Look(t, "Put", v.Put(1, []byte("x")), api.OK)
		Look(t, "Fuse", d.Fuse(0), api.OK)
		Look(t, l.what, l.act(v), api.ErrDown)
		lookRefused(t, v, api.ErrDown)
		Look(t, "Crash", d.Crash(nil), api.OK)
		lookRefused(t, v, api.ErrDown)
		lookFound(t, d, told{standing: state{1: Whole("\x01"), 2: Whole("\x02")}})
	}
}
