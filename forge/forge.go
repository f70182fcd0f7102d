// Package forge lays heads, groups and pages on drums by hand, for tests: as a vault may leave them, or as none would.
package forge

import (
	"slices"

	"lectern/api"
	"lectern/drum"
	"lectern/octet"
	"lectern/sheet"
	"lectern/tape"
)

// T is a test.
type T interface {
	Helper()
	Fatalf(form string, words ...any)
}

// Look looks what a call answered.
func Look(t T, what string, got, want api.Errno) {
	t.Helper()
	if got != want {
		t.Fatalf("%s: %d, not %d", what, got, want)
	}
}

// NewDrum is a drum on which nothing stands.
func NewDrum(t T, sectors int) *drum.Drum {
	t.Helper()
	d, e := drum.New(sectors)
	Look(t, "drum's New", e, api.OK)
	return d
}

// Sectors is what stands on all sectors of a drum, loose or not; the drum itself does no step.
func Sectors(t T, d *drum.Drum) string {
	t.Helper()
	if d == nil {
		return ""
	}
	c := d.Clone()
	Look(t, "drum's Crash", c.Crash(slices.Repeat([]bool{true}, c.Loose())), api.OK) // it may be without power
	var l []byte
	for n := range c.Sectors() {
		b, e := c.Read(n)
		Look(t, "drum's Read", e, api.OK)
		l = append(l, b...)
	}
	return string(l)
}

// LayHead writes a head, and lets it stand.
func LayHead(t T, d *drum.Drum, gen int, stamp uint64) {
	t.Helper()
	Look(t, "PutHead", sheet.PutHead(d, sheet.Head{Gen: gen, Stamp: stamp}), api.OK)
	Look(t, "Flush", d.Flush(), api.OK)
}

// LayGroups writes groups of a generation, and lets them stand.
func LayGroups(t T, d *drum.Drum, gen int, groups ...[]byte) {
	t.Helper()
	log, _, e := tape.Open(d, 2, 2+d.Sectors()/4, gen)
	Look(t, "tape's Open", e, api.OK)
	for _, g := range groups {
		Look(t, "Append", log.Append(g), api.OK)
	}
	Look(t, "Flush", d.Flush(), api.OK)
}

// LayPage writes a page, and lets it stand.
func LayPage(t T, d *drum.Drum, n int, stamp uint64, p string) {
	t.Helper()
	Look(t, "sheet's Put", sheet.Put(d, n, stamp, []byte(p)), api.OK)
	Look(t, "Flush", d.Flush(), api.OK)
}

// Turn turns a byte on a drum, and lets that stand.
func Turn(t T, d *drum.Drum, sector, at int) {
	t.Helper()
	b, e := d.Read(sector)
	Look(t, "drum's Read", e, api.OK)
	b[at] ^= 0x40
	Look(t, "drum's Write", d.Write(sector, b), api.OK)
	Look(t, "Flush", d.Flush(), api.OK)
}

// Whole is a page's bytes: p, and bytes 0 behind.
func Whole(p string) string { return p + string(make([]byte, api.PageSize-len(p))) }

// Part is a page of a group.
type Part struct {
	N int
	P string
}

// PageOf is the page n with the bytes p, and bytes 0 behind.
func PageOf(n int, p string) Part { return Part{n, Whole(p)} }

// GroupOf is a group's bytes, all of whose fields are chosen.
func GroupOf(count int, stamp uint64, parts ...Part) []byte {
	b := slices.Concat(octet.Bytes(uint64(count), 2), octet.Bytes(stamp, 8))
	for _, l := range parts {
		b = slices.Concat(b, octet.Bytes(uint64(l.N), 4), []byte(l.P))
	}
	return b
}

// MapOf is the map where these pages are taken.
func MapOf(pages ...int) string {
	b := make([]byte, api.PageSize)
	for _, n := range pages {
		b[n/8] += 1 << (n % 8)
	}
	return string(b)
}
