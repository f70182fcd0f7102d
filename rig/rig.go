// Package rig makes drums and vaults for the tests of the layers that live in a vault's pages, and lets the power go beneath them.
package rig

import (
	"slices"

	"lectern/api"
	"lectern/drum"
	"lectern/sample"
	"lectern/vault"
)

// T is a test.
type T interface {
	Helper()
	Fatalf(form string, words ...any)
}

// Look looks what a call answered.
func Look(t T, what string, got, want api.Errno) {
	t.Helper()
	if got != want {
		t.Fatalf("%s: %d, not %d", what, got, want)
	}
}

// NewDrum is a drum on which nothing stands.
func NewDrum(t T, sectors int) *drum.Drum {
	t.Helper()
	d, e := drum.New(sectors)
	Look(t, "drum's New", e, api.OK)
	return d
}

// Opened is the vault on a drum.
func Opened(t T, d *drum.Drum, frames int) *vault.Vault {
	t.Helper()
	v, e := vault.Open(d, frames)
	Look(t, "vault's Open", e, api.OK)
	return v
}

// Begun is a vault on a new drum, in whose pages a transaction works.
func Begun(t T, sectors, frames int) *vault.Vault {
	t.Helper()
	v := Opened(t, NewDrum(t, sectors), frames)
	Look(t, "Begin", v.Begin(), api.OK)
	return v
}

// Again commits a transaction, and begins the next one.
func Again(t T, v *vault.Vault) {
	t.Helper()
	Look(t, "Commit", v.Commit(), api.OK)
	Look(t, "Begin", v.Begin(), api.OK)
}

// Undo aborts a transaction, and begins the next one.
func Undo(t T, v *vault.Vault) {
	t.Helper()
	Look(t, "Abort", v.Abort(), api.OK)
	Look(t, "Begin", v.Begin(), api.OK)
}

// Image is the pages that are taken, and what stands in them.
func Image(t T, v *vault.Vault) map[int]string {
	t.Helper()
	m := map[int]string{}
	for _, n := range v.Taken() {
		p, e := v.Get(n)
		Look(t, "vault's Get", e, api.OK)
		m[n] = string(p)
	}
	return m
}

// LookOwned looks that all taken pages are somebody's, and none two's.
func LookOwned(t T, v *vault.Vault, pages ...[]int) {
	t.Helper()
	all := slices.Concat(pages...)
	slices.Sort(all)
	if taken := v.Taken(); !slices.Equal(all, taken) {
		t.Fatalf("P6: these live in the pages %v, and taken are %v", all, taken)
	}
}

// Apart is how many pairs differ.
func Apart(before, after map[string]string) int {
	count := 0
	for k, value := range before {
		if other, ok := after[k]; !ok || other != value {
			count++
		}
	}
	for k := range after {
		if _, ok := before[k]; !ok {
			count++
		}
	}
	return count
}

// Transaction is what is done in a vault between Begin and Commit. It answers what became of a state by it, which it leaves as it was.
type Transaction[S any] func(v *vault.Vault, state S) (S, api.Errno)

// run does transactions, up to the first ErrDown. It answers what may be found then: the state of those that are committed, and, if a Commit was cut, the one behind that.
func run[S any](t T, v *vault.Vault, state S, script []Transaction[S]) []S {
	t.Helper()
	for i, do := range script {
		Look(t, "Begin", v.Begin(), api.OK)
		next, e := do(v, state)
		if e == api.ErrDown {
			return []S{state}
		}
		if e != api.OK {
			t.Fatalf("transaction %d: %d", i, e)
		}
		if e = v.Commit(); e == api.ErrDown {
			return []S{state, next}
		}
		Look(t, "Commit", e, api.OK)
		state = next
	}
	return []S{state}
}

// Cut does a script with a vault of so many frames on a drum of its own for each step that it does, at which the power goes, and then crashes the drum in some ways: a state that may be found must stand in the vault that is opened. It answers how many Commits were cut.
func Cut[S any](t T, sectors, frames int, first S, script []Transaction[S], stands func(v *vault.Vault, state S) bool) int {
	t.Helper()
	dice, cuts := sample.Dice(sectors), 0
	for fuse := 0; ; fuse++ {
		d := NewDrum(t, sectors)
		v := Opened(t, d, frames)
		Look(t, "Fuse", d.Fuse(fuse), api.OK)
		states := run(t, v, first, script)
		cuts += len(states) - 1
		for way := range 4 {
			keep := make([]bool, d.Loose())
			for i := range keep {
				keep[i] = way == 1 || way > 1 && dice.OneIn(2)
			}
			c := d.Clone()
			Look(t, "Crash", c.Crash(keep), api.OK)
			found := Opened(t, c, frames)
			if !slices.ContainsFunc(states, func(s S) bool { return stands(found, s) }) {
				t.Fatalf("P4: behind a crash at step %d there is neither what stood nor what was committed", fuse)
			}
		}
		if !d.Down() {
			return cuts
		}
	}
}
