package sheet

import (
	"bytes"
	"encoding/binary"
	"hash/crc32"
	"slices"
	"testing"

	"lectern/api"
	"lectern/drum"
	"lectern/sample"
)

// The model lays pages and heads by the library's means.

// mended is bytes with the sum that is right for them in front, for the first four.
func mended(b []byte) []byte {
	return append(binary.BigEndian.AppendUint32(nil, crc32.ChecksumIEEE(b[4:])), b[4:]...)
}

// modelPage is a page's bytes on its sectors, all of whose fields are chosen.
func modelPage(n int, stamp uint64, p []byte) []byte {
	b := make([]byte, 512)
	binary.BigEndian.PutUint32(b[4:], uint32(n))
	binary.BigEndian.PutUint64(b[8:], stamp)
	copy(b[16:], p)
	return mended(b)
}

// modelHead is a head's bytes, all of whose fields are chosen.
func modelHead(mark string, gen int, stamp uint64, behind string) []byte {
	b := make([]byte, 64)
	copy(b[4:], mark)
	binary.BigEndian.PutUint32(b[8:], uint32(gen))
	binary.BigEndian.PutUint64(b[12:], stamp)
	copy(b[20:], behind)
	return mended(b)
}

// modelPlan counts a drum's sectors off.
func modelPlan(sectors int) Plan {
	p := Plan{Base: 2}
	for 4*(p.Log+1) <= sectors {
		p.Log++
		p.Base++
	}
	for p.Base+8*(p.Pages+1) <= sectors {
		p.Pages++
	}
	return p
}

// modelTake is what bytes are, by laying what they might be.
func modelTake(n int, b []byte) ([]byte, uint64, api.Errno) {
	switch {
	case n < 0 || n >= 1<<32:
		return nil, 0, api.ErrArg
	case len(b) != 512:
		return nil, 0, api.ErrLong
	case bytes.Count(b, []byte{0}) == 512:
		return b[16:], 0, api.OK
	}
	stamp := binary.BigEndian.Uint64(b[8:])
	switch {
	case bytes.Equal(b, modelPage(n, stamp, b[16:])):
		return b[16:], stamp, api.OK
	case !bytes.Equal(b, mended(b)):
		return nil, 0, api.ErrSum
	}
	return nil, 0, api.ErrForm
}

// modelTakeHead is what bytes are as a head.
func modelTakeHead(b []byte) (Head, api.Errno) {
	if len(b) != 64 {
		return Head{}, api.ErrLong
	}
	h := Head{int(binary.BigEndian.Uint32(b[8:])), binary.BigEndian.Uint64(b[12:])}
	switch {
	case !bytes.Equal(b, mended(b)):
		return Head{}, api.ErrSum
	case h.Gen == 0 || !bytes.Equal(b, modelHead("LECT", h.Gen, h.Stamp, "")):
		return Head{}, api.ErrForm
	}
	return h, api.OK
}

func drawnBytes(dice *sample.Dice, size int) []byte {
	p := make([]byte, size)
	for i := range p {
		p[i] = byte(dice.Under(256))
	}
	return p
}

// drawnNumber has any number of bits, up to so many.
func drawnNumber(dice *sample.Dice, bits int) uint64 {
	v := uint64(dice.Under(1<<31))<<40 ^ uint64(dice.Under(1<<31))<<20 ^ uint64(dice.Under(1<<31))
	return v >> (64 - bits + dice.Under(bits))
}

// spoilt is bytes of which some are turned; the sum is mostly right for them. Now and then they are too many, or too few.
func spoilt(dice *sample.Dice, b []byte) []byte {
	b = slices.Clone(b)
	for range dice.Under(3) {
		b[dice.Under(len(b))] ^= byte(1 + dice.Under(255))
	}
	for range dice.Under(2) {
		b[4+dice.Under(16)] ^= byte(1 + dice.Under(255))
	}
	if !dice.OneIn(4) {
		b = mended(b)
	}
	switch dice.Under(30) {
	case 0:
		return append(b, 0)
	case 1:
		return b[:len(b)-1]
	case 2:
		return make([]byte, len(b))
	}
	return b
}

func TestP15_2Model(t *testing.T) {
	dice := sample.Dice(152)
	seen := map[api.Errno]int{}
	for range 20000 {
		n, stamp := int(drawnNumber(&dice, 34)), drawnNumber(&dice, 64)
		body := drawnBytes(&dice, dice.Under(497))
		b, e := Lay(n, stamp, body)
		if n >= 1<<32 {
			lookNoBytes(t, "P15.2: Lay", b, e, api.ErrArg)
			continue
		}
		if !bytes.Equal(b, modelPage(n, stamp, body)) || e != api.OK {
			t.Fatalf("P15.2: Lay(%d, %d, %x): %x, %d", n, stamp, body, b, e)
		}
		b = spoilt(&dice, b)
		if dice.OneIn(5) {
			n = int(drawnNumber(&dice, 40))
		}
		want, wantStamp, wantE := modelTake(n, b)
		p, s, e := Take(n, b)
		if !bytes.Equal(p, want) || s != wantStamp || e != wantE {
			t.Fatalf("P15.2: Take(%d, %x): %x, %d, %d, not %x, %d, %d", n, b, p, s, e, want, wantStamp, wantE)
		}
		seen[e]++
	}
	for _, e := range []api.Errno{api.OK, api.ErrArg, api.ErrLong, api.ErrSum, api.ErrForm} {
		if seen[e] < 100 {
			t.Errorf("P15.2: %d was answered %d times", e, seen[e])
		}
	}
}

func TestP15_3Model(t *testing.T) {
	dice := sample.Dice(153)
	seen := map[api.Errno]int{}
	for range 40000 {
		h := Head{int(drawnNumber(&dice, 34)), drawnNumber(&dice, 64)}
		b, e := LayHead(h)
		if h.Gen == 0 || h.Gen >= 1<<32 {
			lookNoBytes(t, "P15.3: LayHead", b, e, api.ErrArg)
			continue
		}
		if !bytes.Equal(b, modelHead("LECT", h.Gen, h.Stamp, "")) || e != api.OK {
			t.Fatalf("P15.3: LayHead(%v): %x, %d", h, b, e)
		}
		b = spoilt(&dice, b)
		want, wantE := modelTakeHead(b)
		if got, e := TakeHead(b); got != want || e != wantE {
			t.Fatalf("P15.3: TakeHead(%x): %v, %d, not %v, %d", b, got, e, want, wantE)
		}
		seen[wantE]++
	}
	for _, e := range []api.Errno{api.OK, api.ErrLong, api.ErrSum, api.ErrForm} {
		if seen[e] < 100 {
			t.Errorf("P15.3: %d was answered %d times", e, seen[e])
		}
	}
}

// newDrum is a drum on whose sectors something stands.
func newDrum(t *testing.T, sectors int, fill byte) *drum.Drum {
	t.Helper()
	d, e := drum.New(sectors)
	look(t, "drum's New", e, api.OK)
	if fill != 0 {
		for n := range sectors {
			write(t, d, n, bytes.Repeat([]byte{fill}, 64))
		}
	}
	look(t, "drum's Flush", d.Flush(), api.OK)
	return d
}

// write writes a sector.
func write(t *testing.T, d *drum.Drum, n int, b []byte) {
	t.Helper()
	look(t, "drum's Write", d.Write(n, b), api.OK)
}

// sectorsOn is what stands on a drum's sectors from lo on, ahead of hi; the drum's own steps don't change.
func sectorsOn(t *testing.T, d *drum.Drum, lo, hi int) []byte {
	t.Helper()
	c := d.Clone()
	look(t, "drum's Fuse", c.Fuse(1<<30), api.OK)
	var l []byte
	for n := lo; n < hi; n++ {
		b, e := c.Read(n)
		look(t, "drum's Read", e, api.OK)
		l = append(l, b...)
	}
	return l
}
