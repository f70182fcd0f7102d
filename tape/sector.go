package tape

import (
	"lectern/api"
)

const (
	ahead = 16                     // bytes of a sector ahead of its group's bytes
	room  = api.SectorSize - ahead // how many of its group's bytes stand in a sector
)

// polynomial is what the sum lays over its bits.
const polynomial = 0xedb88320

// sector is the bytes of a sector.
type sector [api.SectorSize]byte

// mark is what a sector says of the place that it has.
type mark struct {
	gen, place, group int
	behind            int // how many sectors of the group stand behind it
}

// Sum is the sum of bytes.
func Sum(p []byte) uint32 {
	c := ^uint32(0)
	for _, b := range p {
		c ^= uint32(b)
		for range 8 {
			fallen := c & 1
			c = c>>1 ^ fallen*polynomial
		}
	}
	return ^c
}

// sectorsOf is how many sectors a group of so many bytes takes.
func sectorsOf(size int) int { return max((size+room-1)/room, 1) }

// lay is the sector with a mark and some of a group's bytes.
func lay(m mark, p []byte) sector {
	var s sector
	put(s[4:8], m.gen)
	put(s[8:10], m.place)
	put(s[10:12], m.group)
	put(s[12:14], m.behind)
	put(s[14:ahead], len(p))
	copy(s[ahead:], p)
	put(s[:4], int(Sum(s[4:])))
	return s
}

// behind is how many sectors of the group stand behind s, as it says itself.
func (s sector) behind() int { return number(s[12:14]) }

// size is how many of the group's bytes stand in s, as it says itself.
func (s sector) size() int { return number(s[14:ahead]) }

// put fills b with a number, the highest byte first.
func put(b []byte, v int) {
	for i := range len(b) {
		b[len(b)-1-i] = byte(v >> (8 * i))
	}
}

// number is the number that fills b, the highest byte first.
func number(b []byte) int {
	v := 0
	for i := range len(b) {
		v = v<<8 | int(b[i])
	}
	return v
}
