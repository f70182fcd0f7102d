package sheet

import (
	"bytes"
	"slices"

	"lectern/api"
	"lectern/octet"
)

// headMark is what stands behind a head's sum.
const headMark = "LECT"

// Head is a head.
type Head struct {
	Gen   int
	Stamp uint64
}

// LayHead is a head's bytes.
func LayHead(h Head) ([]byte, api.Errno) {
	if h.Gen < 1 || h.Gen > highest {
		return nil, api.ErrArg
	}
	body := make([]byte, api.SectorSize-sumSize)
	copy(body, slices.Concat([]byte(headMark), octet.Bytes(uint64(h.Gen), 4), octet.Bytes(h.Stamp, 8)))
	return sealed(body), api.OK
}

// TakeHead is the head of bytes.
func TakeHead(b []byte) (Head, api.Errno) {
	switch {
	case len(b) != api.SectorSize:
		return Head{}, api.ErrLong
	case !isSealed(b):
		return Head{}, api.ErrSum
	}
	h := Head{Gen: int(octet.Number(b[8:12])), Stamp: octet.Number(b[12:20])}
	// What differs from the head that is laid so is wrong somewhere: behind its stamp, too.
	if right, e := LayHead(h); e != api.OK || !bytes.Equal(b, right) {
		return Head{}, api.ErrForm
	}
	return h, api.OK
}
