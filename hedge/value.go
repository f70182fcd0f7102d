package hedge

import (
	"bytes"
	"slices"

	"lectern/api"
	"lectern/octet"
)

// A value of at most mostInside bytes stands in its cell, behind a byte that says how many. Of a longer one there stand the mark, its size and its first page; in each of its pages the number of the next one, and as many of its bytes as there is room for.
const (
	mostInside = 96
	longMark   = 255
	longCell   = 1 + numberSize + numberSize
	longRoom   = api.PageSize - numberSize
)

// valueSize is how many bytes what says a value takes that begins with a byte; one that says none leaves no room for it.
func valueSize(first byte) int {
	switch {
	case first == longMark:
		return longCell
	case first <= mostInside:
		return 1 + int(first)
	}
	return api.PageSize
}

// isLong says whether the value of a leaf's cell stands in pages of its own.
func (c cell) isLong() bool { return c.rest[0] == longMark }

// long is how many bytes a long value has, and its first page.
func (c cell) long() (size, page int) {
	return int(octet.Number(c.rest[1 : 1+numberSize])), int(octet.Number(c.rest[1+numberSize:]))
}

// isValue says whether a leaf's cell says a value.
func (c cell) isValue() bool {
	if !c.isLong() {
		return true
	}
	size, _ := c.long()
	return size > mostInside && size <= api.MaxCell
}

// value is the value of a leaf's cell.
func (h *Hedge) value(c cell) ([]byte, api.Errno) {
	if !c.isLong() {
		return bytes.Clone(c.rest[1:]), api.OK
	}
	var l []byte
	e := h.walkValue(c, func(_ int, part []byte) { l = append(l, part...) })
	if e != api.OK {
		return nil, e
	}
	return l, api.OK
}

// valuePages is the pages that the value of a leaf's cell takes besides.
func (h *Hedge) valuePages(c cell) ([]int, api.Errno) {
	var l []int
	e := h.walkValue(c, func(n int, _ []byte) { l = append(l, n) })
	if e != api.OK {
		return nil, e
	}
	return l, api.OK
}

// walkValue shows the pages of a long value, in order, with what stands of it there.
func (h *Hedge) walkValue(c cell, visit func(n int, part []byte)) api.Errno {
	if !c.isLong() {
		return api.OK
	}
	left, n := c.long()
	for left > 0 {
		b, e := h.page(n)
		if e != api.OK {
			return e
		}
		part := b[numberSize : numberSize+min(left, longRoom)]
		visit(n, part)
		left -= len(part)
		n = int(octet.Number(b[:numberSize]))
	}
	return api.OK
}

// layValue is what says a value in its cell; of a long one its pages are written, the last one first, as each tells the next one.
func (h *Hedge) layValue(value []byte) ([]byte, api.Errno) {
	if len(value) <= mostInside {
		return slices.Concat([]byte{byte(len(value))}, value), api.OK
	}
	next := 0
	for at := (len(value) - 1) / longRoom * longRoom; at >= 0; at -= longRoom {
		n, e := h.vault.Alloc()
		if e != api.OK {
			return nil, e
		}
		b := slices.Concat(octet.Bytes(uint64(next), numberSize), value[at:min(at+longRoom, len(value))])
		if e := h.vault.Put(n, b); e != api.OK {
			return nil, e
		}
		next = n
	}
	size := octet.Bytes(uint64(len(value)), numberSize)
	return slices.Concat([]byte{longMark}, size, octet.Bytes(uint64(next), numberSize)), api.OK
}

// freeValue lets go what the value of a leaf's cell takes besides.
func (h *Hedge) freeValue(c cell) api.Errno {
	l, e := h.valuePages(c)
	if e != api.OK {
		return e
	}
	return h.free(l...)
}
