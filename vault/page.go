package vault

import (
	"lectern/api"
	"lectern/sheet"
)

// MapPage is the page whose bits say which pages are taken.
const MapPage = 0

// Marked is the pages, of so many, that a map says are taken, rising.
func Marked(bits []byte, pages int) []int {
	var l []int
	for n := MapPage + 1; n < min(pages, 8*len(bits)); n++ {
		if isMarked(bits, n) {
			l = append(l, n)
		}
	}
	return l
}

// isMarked says whether the bit of the page n is 1.
func isMarked(bits []byte, n int) bool { return bits[n/8]>>(n%8)&1 == 1 }

// page is a page's bytes.
type page [api.PageSize]byte

// has says whether it is a map that says the page n is taken.
func (p *page) has(n int) bool { return isMarked(p[:], n) }

// set makes the bit of the page n 1, or 0.
func (p *page) set(n int, taken bool) {
	bit := byte(1) << (n % 8)
	p[n/8] &^= bit
	if taken {
		p[n/8] |= bit
	}
}

// bits is the map as it was changed so far.
func (v *Vault) bits() page {
	if p, ok := v.changed[MapPage]; ok {
		return p
	}
	return v.standing
}

// isTaken says whether there is a page n that is taken.
func (v *Vault) isTaken(n int) bool {
	bits := v.bits()
	return n > MapPage && n < v.plan.Pages && bits.has(n)
}

// firstFree is the least page that isn't taken, and whether there is one.
func (v *Vault) firstFree() (int, bool) {
	bits := v.bits()
	for n := MapPage + 1; n < v.plan.Pages; n++ {
		if !bits.has(n) {
			return n, true
		}
	}
	return 0, false
}

// mark makes a page one that is taken, or one that isn't.
func (v *Vault) mark(n int, taken bool) {
	bits := v.bits()
	bits.set(n, taken)
	v.changed[MapPage] = bits
}

// find is a taken page as it was changed so far.
func (v *Vault) find(n int) (page, api.Errno) {
	if p, ok := v.changed[n]; ok {
		return p, api.OK
	}
	if p, ok := v.kept.Get(n); ok {
		return p, api.OK
	}
	return v.read(n)
}

// read is a page off the drum.
func (v *Vault) read(n int) (page, api.Errno) {
	b, _, e := sheet.Get(v.disk, n)
	if v.told(e) != api.OK {
		return page{}, e
	}
	p := page(b)
	v.know(n, p)
	return p, api.OK
}

// know keeps what stands in a page of the drum in mind.
func (v *Vault) know(n int, p page) {
	if n == MapPage {
		v.standing = p
		return
	}
	// It has a place: nothing that is kept is dirty or pinned, for changed pages stand elsewhere.
	v.kept.Put(n, p, false)
}
