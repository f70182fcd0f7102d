package sheet

import (
	"lectern/api"
	"lectern/drum"
)

// Put writes a page.
func Put(d *drum.Drum, n int, stamp uint64, p []byte) api.Errno {
	first, e := firstOf(d, n)
	if e != api.OK {
		return e
	}
	b, e := Lay(n, stamp, p)
	if e != api.OK {
		return e
	}
	for i := range sectorsEach {
		if e := d.Write(first+i, b[i*api.SectorSize:(i+1)*api.SectorSize]); e != api.OK {
			return e
		}
	}
	return api.OK
}

// Get reads a page.
func Get(d *drum.Drum, n int) (p []byte, stamp uint64, e api.Errno) {
	b, e := read(d, n)
	if e != api.OK {
		return nil, 0, e
	}
	return Take(n, b)
}

// Blank says whether a page is blank; its errors are Get's, but for those of what stands there.
func Blank(d *drum.Drum, n int) (bool, api.Errno) {
	b, e := read(d, n)
	return e == api.OK && isBlank(b), e
}

// read is the bytes of a page's sectors.
func read(d *drum.Drum, n int) ([]byte, api.Errno) {
	first, e := firstOf(d, n)
	if e != api.OK {
		return nil, e
	}
	var b []byte
	for i := range sectorsEach {
		s, e := d.Read(first + i)
		if e != api.OK {
			return nil, e
		}
		b = append(b, s...)
	}
	return b, api.OK
}

// PutHead writes a head.
func PutHead(d *drum.Drum, h Head) api.Errno {
	if _, e := planOf(d); e != api.OK {
		return e
	}
	b, e := LayHead(h)
	if e != api.OK {
		return e
	}
	return d.Write(h.Gen%heads, b)
}

// GetHead reads the newest head.
func GetHead(d *drum.Drum) (Head, api.Errno) {
	if _, e := planOf(d); e != api.OK {
		return Head{}, e
	}
	var newest Head
	for n := range heads {
		b, e := d.Read(n)
		if e != api.OK {
			return Head{}, e
		}
		if h, e := TakeHead(b); e == api.OK && h.Gen > newest.Gen {
			newest = h
		}
	}
	if newest.Gen == 0 {
		return Head{}, api.ErrForm
	}
	return newest, api.OK
}

// planOf is the plan of a drum, if it has one.
func planOf(d *drum.Drum) (Plan, api.Errno) {
	if d == nil {
		return Plan{}, api.ErrNil
	}
	return Draft(d.Sectors())
}

// firstOf is the first sector of the page n of a drum, if it has one.
func firstOf(d *drum.Drum, n int) (int, api.Errno) {
	plan, e := planOf(d)
	switch {
	case e != api.OK:
		return 0, e
	case n < 0, n >= plan.Pages:
		return 0, api.ErrArg
	}
	return plan.Base + n*sectorsEach, api.OK
}
