package tape

// reader makes groups of a tape's sectors.
type reader struct {
	gen     int
	groups  [][]byte
	used    int    // how many sectors these take
	begun   []byte // the bytes that are there of the next group
	taken   int    // how many sectors are taken, those of the next group too
	missing int    // how many sectors the next group lacks; 0, if none of it is there
}

// take takes the next sector, if a group goes on with it.
func (r *reader) take(b []byte) bool {
	var s sector
	copy(s[:], b)
	if !r.fits(s) {
		return false
	}
	p := s[ahead : ahead+s.size()]
	// What differs from the sector that is laid so is wrong somewhere: in its sum, or behind its bytes, too.
	if s != lay(mark{gen: r.gen, place: r.taken, group: len(r.groups), behind: s.behind()}, p) {
		return false
	}
	r.begun = append(r.begun, p...)
	r.taken++
	r.missing = s.behind()
	if r.missing == 0 {
		r.groups = append(r.groups, r.begun)
		r.begun, r.used = nil, r.taken
	}
	return true
}

// fits says whether s has as many bytes, and as many sectors behind it, as the group's next sector may have.
func (r *reader) fits(s sector) bool {
	isFirst := r.missing == 0
	switch {
	case !isFirst && s.behind() != r.missing-1:
		return false
	case s.behind() > 0:
		return s.size() == room
	case !isFirst && s.size() == 0:
		return false
	}
	return s.size() <= room
}
