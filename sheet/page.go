package sheet

import (
	"slices"

	"lectern/api"
	"lectern/octet"
)

// pageAhead is how many of a page's bytes on its sectors stand ahead of its own.
const pageAhead = pageSize - api.PageSize

// Lay is a page's bytes on its sectors.
func Lay(n int, stamp uint64, p []byte) ([]byte, api.Errno) {
	switch {
	case !isNumber(n):
		return nil, api.ErrArg
	case len(p) > api.PageSize:
		return nil, api.ErrLong
	}
	behind := make([]byte, api.PageSize-len(p))
	return sealed(slices.Concat(octet.Bytes(uint64(n), 4), octet.Bytes(stamp, 8), p, behind)), api.OK
}

// Take is the page of its sectors' bytes.
func Take(n int, b []byte) (p []byte, stamp uint64, e api.Errno) {
	switch {
	case !isNumber(n):
		return nil, 0, api.ErrArg
	case len(b) != pageSize:
		return nil, 0, api.ErrLong
	case isBlank(b):
		return make([]byte, api.PageSize), 0, api.OK
	case !isSealed(b):
		return nil, 0, api.ErrSum
	case octet.Number(b[4:8]) != uint64(n):
		return nil, 0, api.ErrForm
	}
	return slices.Clone(b[pageAhead:]), octet.Number(b[8:pageAhead]), api.OK
}

// isNumber says whether a page may have the number n.
func isNumber(n int) bool { return n >= 0 && n <= highest }

// isBlank says whether bytes are those of a page that was never written.
func isBlank(b []byte) bool {
	return !slices.ContainsFunc(b, func(c byte) bool { return c != 0 })
}
