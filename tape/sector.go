package tape

import (
	"slices"

	"lectern/api"
	"lectern/octet"
)

const (
	ahead = 16                     // bytes of a sector ahead of its group's bytes
	room  = api.SectorSize - ahead // how many of its group's bytes stand in a sector
)

// polynomial is what the sum lays over its bits.
const polynomial = 0xedb88320

// sector is the bytes of a sector.
type sector [api.SectorSize]byte

// mark is what a sector says of the place that it has.
type mark struct {
	gen, place, group int
	behind            int // how many sectors of the group stand behind it
}

// Sum is the sum of bytes.
func Sum(p []byte) uint32 {
	c := ^uint32(0)
	for _, b := range p {
		c ^= uint32(b)
		for range 8 {
			fallen := c & 1
			c = c>>1 ^ fallen*polynomial
		}
	}
	return ^c
}

// Sectors is how many sectors a group of so many bytes takes.
func Sectors(size int) int { return (max(size, 1)-1)/room + 1 }

// lay is the sector with a mark and some of a group's bytes.
func lay(m mark, p []byte) sector {
	var s sector
	copy(s[4:], slices.Concat(octet.Bytes(uint64(m.gen), 4), two(m.place), two(m.group), two(m.behind), two(len(p)), p))
	copy(s[:4], octet.Bytes(uint64(Sum(s[4:])), 4))
	return s
}

// two is a number as two bytes.
func two(v int) []byte { return octet.Bytes(uint64(v), 2) }

// behind is how many sectors of the group stand behind s, as it says itself.
func (s sector) behind() int { return int(octet.Number(s[12:14])) }

// size is how many of the group's bytes stand in s, as it says itself.
func (s sector) size() int { return int(octet.Number(s[14:ahead])) }
