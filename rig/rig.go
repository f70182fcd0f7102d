// Package rig makes drums, vaults and edits for the tests of the layers that live in a vault's pages, and lets the power go beneath them.
package rig

import (
	"slices"

	"lectern/api"
	"lectern/drum"
	"lectern/edit"
	"lectern/forge"
	"lectern/sample"
	"lectern/tree"
	"lectern/vault"
)

// T is a test.
type T = forge.T

// Look looks what a call answered.
func Look(t T, what string, got, want api.Errno) {
	t.Helper()
	forge.Look(t, what, got, want)
}

// NewDrum is a drum on which nothing stands.
func NewDrum(t T, sectors int) *drum.Drum {
	t.Helper()
	return forge.NewDrum(t, sectors)
}

// Opened is the vault on a drum.
func Opened(t T, d *drum.Drum, frames int) *vault.Vault {
	t.Helper()
	v, e := vault.Open(d, frames)
	Look(t, "vault's Open", e, api.OK)
	return v
}

// Begun is a vault on a new drum, in whose pages a transaction works.
func Begun(t T, sectors, frames int) *vault.Vault {
	t.Helper()
	v := Opened(t, NewDrum(t, sectors), frames)
	Look(t, "Begin", v.Begin(), api.OK)
	return v
}

// Again commits a transaction, and begins the next one.
func Again(t T, v *vault.Vault) {
	t.Helper()
	Look(t, "Commit", v.Commit(), api.OK)
	Look(t, "Begin", v.Begin(), api.OK)
}

// Undo aborts a transaction, and begins the next one.
func Undo(t T, v *vault.Vault) {
	t.Helper()
	Look(t, "Abort", v.Abort(), api.OK)
	Look(t, "Begin", v.Begin(), api.OK)
}

// Image is the pages that are taken, and what stands in them.
func Image(t T, v *vault.Vault) map[int]string {
	t.Helper()
	m := map[int]string{}
	for _, n := range v.Taken() {
		p, e := v.Get(n)
		Look(t, "vault's Get", e, api.OK)
		m[n] = string(p)
	}
	return m
}

// LookOwned looks that all taken pages are somebody's, and none two's.
func LookOwned(t T, v *vault.Vault, pages ...[]int) {
	t.Helper()
	all := slices.Concat(pages...)
	slices.Sort(all)
	if taken := v.Taken(); !slices.Equal(all, taken) {
		t.Fatalf("P6: these live in the pages %v, and taken are %v", all, taken)
	}
}

// Apart is how many pairs differ.
func Apart(before, after map[string]string) int {
	count := 0
	for k, value := range before {
		if other, ok := after[k]; !ok || other != value {
			count++
		}
	}
	for k := range after {
		if _, ok := before[k]; !ok {
			count++
		}
	}
	return count
}

// Addresses is the paths of all nodes of a tree, and the names of all their attributes.
func Addresses(d api.Node) (paths [][]int, names []api.Name) {
	for path, n := range tree.All(d) {
		paths = append(paths, path)
		for _, a := range n.Attrs {
			names = append(names, a.Name)
		}
	}
	return paths, names
}

// DrawnEdit is an edit that is mostly one of d's nodes.
func DrawnEdit(dice *sample.Dice, d api.Node) edit.Edit {
	paths, names := Addresses(d)
	e := edit.Edit{Op: 1 + dice.Under(6), At: paths[dice.Under(len(paths))], Text: dice.Text(), Node: dice.Node()}
	e.Name = api.Name{URI: dice.Of("", "u", "v", "\xff"), Local: dice.Of("a", "b", "c", "")}
	if len(names) > 0 && dice.OneIn(2) {
		e.Name = names[dice.Under(len(names))]
	}
	switch n, _ := tree.At(d, e.At); {
	case dice.OneIn(20):
		e.Op = dice.Under(20) - 10
	case dice.OneIn(2): // beside a kid, or behind the last one
		e.Op = edit.Insert
		e.At = append(e.At, dice.Under(len(n.Kids)+1))
	case n.Kind == api.Text && dice.OneIn(2):
		e.Op = edit.Write
	}
	return e
}

// Store is something on a drum that is changed by transactions.
type Store interface {
	Begin() api.Errno
	Commit() api.Errno
}

// Transaction is what is done in a store between Begin and Commit. It answers what became of a state by it, which it leaves as it was.
type Transaction[R Store, S any] func(store R, state S) (S, api.Errno)

// Script is a store's opening on a new drum of so many sectors, and transactions behind it. First is the state that the opening finds, or what counts for none; Stands says whether a state is what stands in a store.
type Script[R Store, S any] struct {
	Sectors int
	Open    func(d *drum.Drum) (R, api.Errno)
	First   S
	Acts    []Transaction[R, S]
	Stands  func(store R, state S) bool
}

// run does the script on a drum, up to the first ErrDown. It answers what may be found then: the state of the transactions that are committed, and, if a Commit was cut, the one behind that.
func (x Script[R, S]) run(t T, d *drum.Drum) []S {
	t.Helper()
	state := x.First
	store, e := x.Open(d)
	if e == api.ErrDown {
		return []S{state}
	}
	Look(t, "Open", e, api.OK)
	for i, do := range x.Acts {
		if e := store.Begin(); e == api.ErrDown {
			return []S{state}
		}
		next, e := do(store, state)
		if e == api.ErrDown {
			return []S{state}
		}
		if e != api.OK {
			t.Fatalf("transaction %d: %d", i, e)
		}
		if e = store.Commit(); e == api.ErrDown {
			return []S{state, next}
		}
		Look(t, "Commit", e, api.OK)
		state = next
	}
	return []S{state}
}

// found is which one of the states stands in the store that is opened on a drum.
func (x Script[R, S]) found(t T, d *drum.Drum, states []S) int {
	t.Helper()
	store, e := x.Open(d)
	Look(t, "Open behind a crash", e, api.OK)
	return slices.IndexFunc(states, func(s S) bool { return x.Stands(store, s) })
}

// Crash lets a drum's power go, and come back; how much stands of what is loose hangs on the way: nothing, all, or what is drawn.
func Crash(t T, dice *sample.Dice, d *drum.Drum, way int) {
	t.Helper()
	keep := make([]bool, d.Loose())
	for i := range keep {
		keep[i] = way == 1 || way > 1 && dice.OneIn(2)
	}
	Look(t, "Crash", d.Crash(keep), api.OK)
}

// Cut does a script on a drum of its own for each step that it does, at which the power goes, and then crashes the drum in some ways: a state that may be found must be what the next opening finds, and the same one must be found behind openings that are cut. It answers how many Commits were cut.
func (x Script[R, S]) Cut(t T) int {
	t.Helper()
	dice, cuts := sample.Dice(x.Sectors), 0
	for fuse := 0; ; fuse++ {
		d := NewDrum(t, x.Sectors)
		Look(t, "Fuse", d.Fuse(fuse), api.OK)
		states := x.run(t, d)
		cuts += len(states) - 1
		for way := range 4 {
			c := d.Clone()
			Crash(t, &dice, c, way)
			again := c.Clone()
			first := x.found(t, c, states)
			if first < 0 {
				t.Fatalf("P4: behind a crash at step %d there is neither what stood nor what was committed", fuse)
			}
			for range way {
				Look(t, "Fuse", again.Fuse(dice.Under(200)), api.OK)
				x.Open(again)
				Crash(t, &dice, again, dice.Under(3))
			}
			if way > 0 && x.found(t, again, states) != first {
				t.Fatalf("P4: behind a crash at step %d an opening that was cut changes what the next one finds", fuse)
			}
		}
		if !d.Down() {
			return cuts
		}
	}
}
