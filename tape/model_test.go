package tape

import (
	"bytes"
	"encoding/binary"
	"hash/crc32"
	"slices"
	"testing"

	"lectern/api"
	"lectern/drum"
	"lectern/sample"
)

// The model lays sectors by the library's means, and tells what stands by laying what might stand there.

// modelSector is a sector, all of whose fields are chosen.
func modelSector(gen, place, group, behind, size int, body []byte) []byte {
	b := binary.BigEndian.AppendUint32(nil, uint32(gen))
	for _, v := range []int{place, group, behind, size} {
		b = binary.BigEndian.AppendUint16(b, uint16(v))
	}
	b = append(b, body...)
	b = append(b, make([]byte, 60-len(b))...)
	return append(binary.BigEndian.AppendUint32(nil, crc32.ChecksumIEEE(b)), b...)
}

// mended is a sector with the sum that is right for it.
func mended(b []byte) []byte {
	return append(binary.BigEndian.AppendUint32(nil, crc32.ChecksumIEEE(b[4:])), b[4:]...)
}

// modelGroup is the sectors of a group.
func modelGroup(gen, place, group int, p []byte) [][]byte {
	parts := [][]byte{nil}
	if len(p) > 0 {
		parts = slices.Collect(slices.Chunk(p, 48))
	}
	var l [][]byte
	for i, part := range parts {
		l = append(l, modelSector(gen, place+i, group, len(parts)-1-i, len(part), part))
	}
	return l
}

// modelLog is the sectors of groups, one behind the other.
func modelLog(gen int, groups [][]byte) [][]byte {
	var l [][]byte
	for i, p := range groups {
		l = append(l, modelGroup(gen, len(l), i, p)...)
	}
	return l
}

func same(a, b [][]byte) bool { return slices.EqualFunc(a, b, bytes.Equal) }

// modelStands is the groups that stand on sectors, and how many sectors they take: each is sought among all that may stand there.
func modelStands(gen int, sectors [][]byte) (groups [][]byte, used int) {
	for {
		p, count := modelNext(gen, used, len(groups), sectors[used:])
		if count == 0 {
			return groups, used
		}
		groups, used = append(groups, p), used+count
	}
}

// modelNext is the group that begins with the first of some sectors, and how many of them it takes; 0, if none does.
func modelNext(gen, place, group int, sectors [][]byte) ([]byte, int) {
	var body []byte
	for i, b := range sectors {
		if size := int(binary.BigEndian.Uint16(b[14:])); size <= 48 { // it may be the group's last one
			p := slices.Concat(body, b[16:16+size])
			if l := modelGroup(gen, place, group, p); same(l, sectors[:min(len(l), i+1)]) && len(l) == i+1 {
				return p, i + 1
			}
		}
		body = append(body, b[16:]...)
	}
	return nil, 0
}

// modelReads is how many sectors an opening reads: up to the first one that isn't that of any group, however much room this one takes.
func modelReads(gen int, sectors [][]byte) int {
	groups, used := modelStands(gen, sectors)
	if used == len(sectors) {
		return used
	}
	more := int(binary.BigEndian.Uint16(sectors[used][12:])) // as many are behind the next one, if it is there
	for i, b := range sectors[used:] {
		if more == i || !bytes.Equal(b, modelSector(gen, used+i, len(groups), more-i, 48, b[16:])) {
			return used + i + 1
		}
	}
	return len(sectors)
}

// laid is a drum with sectors from lo on, and others about them.
func laid(t *testing.T, lo int, sectors [][]byte) *drum.Drum {
	t.Helper()
	d := newDrum(t, lo+len(sectors)+2)
	for n := range d.Sectors() {
		look(t, "drum's Write", d.Write(n, bytes.Repeat([]byte{0xdd}, 64)), api.OK)
	}
	for i, b := range sectors {
		look(t, "drum's Write", d.Write(lo+i, b), api.OK)
	}
	look(t, "drum's Flush", d.Flush(), api.OK)
	return d
}

// sectorsOn is what stands on a drum's sectors from lo on, ahead of hi; the drum's own steps don't change.
func sectorsOn(t *testing.T, d *drum.Drum, lo, hi int) [][]byte {
	t.Helper()
	c := d.Clone()
	if c.Down() {
		t.Fatal("the power is off")
	}
	look(t, "drum's Fuse", c.Fuse(1<<30), api.OK)
	var l [][]byte
	for n := lo; n < hi; n++ {
		b, e := c.Read(n)
		look(t, "drum's Read", e, api.OK)
		l = append(l, b)
	}
	return l
}

// lookStands opens a tape on sectors, and holds what it tells against the model.
func lookStands(t *testing.T, gen int, sectors [][]byte) {
	t.Helper()
	want, used := modelStands(gen, sectors)
	d := laid(t, 3, sectors)
	steps := d.Steps()
	tape, groups, e := Open(d, 3, 3+len(sectors), gen)
	if !same(groups, want) || e != api.OK || tape.Groups() != len(want) || tape.Free() != len(sectors)-used {
		t.Fatalf("P14.1: Open: %x, %d, %d groups, %d free, not %x, %d free, of %x", groups, e, tape.Groups(), tape.Free(), want, len(sectors)-used, sectors)
	}
	if reads := d.Steps() - steps; reads != modelReads(gen, sectors) || d.Loose() != 0 {
		t.Fatalf("P14.1: Open: %d steps, %d loose, not %d, of %x", reads, d.Loose(), modelReads(gen, sectors), sectors)
	}
}

func drawnBytes(dice *sample.Dice, size int) []byte {
	p := make([]byte, size)
	for i := range p {
		p[i] = byte(dice.Under(256))
	}
	return p
}

// drawnSize is how many bytes a group has: often so many that a sector is just full.
func drawnSize(dice *sample.Dice) int {
	if dice.OneIn(2) {
		return max(48*dice.Under(5)+dice.Under(3)-1, 0)
	}
	return dice.Under(200)
}

// drawnLog is the sectors of a tape with some groups on it, and what may stand behind them.
func drawnLog(dice *sample.Dice, gen int) [][]byte {
	var groups [][]byte
	for range dice.Under(7) {
		groups = append(groups, drawnBytes(dice, drawnSize(dice)))
	}
	l := modelLog(gen, groups)
	switch dice.Under(4) {
	case 0:
		l = append(l, modelSector(gen, len(l), len(groups), dice.Under(3), 48, drawnBytes(dice, 48)))
	case 1:
		l = append(l, modelSector(gen-1, len(l), len(groups), 0, 20, drawnBytes(dice, 20)))
	}
	for range dice.Under(5) {
		l = append(l, make([]byte, 64))
	}
	if len(l) == 0 || dice.OneIn(4) { // the tape ends in the middle of a group
		l = append(l, make([]byte, 64))[:1+dice.Under(len(l)+1)]
	}
	return l
}

// changed turns something in some sectors into something else; the sum is mostly right for it.
func changed(dice *sample.Dice, sectors [][]byte) {
	for range dice.Under(3) {
		n := dice.Under(len(sectors))
		b := slices.Clone(sectors[n])
		switch dice.Under(5) {
		case 0:
			b[dice.Under(64)] ^= byte(1 + dice.Under(255))
		case 1:
			b = sectors[dice.Under(len(sectors))]
		case 2: // a field's low byte
			at := []int{7, 9, 11, 13, 15}[dice.Under(5)]
			b[at] = []byte{0, 1, 2, 3, 47, 48, 49, 255, b[at] + 1, b[at] - 1}[dice.Under(10)]
		case 3: // a field's other bytes
			b[[]int{4, 5, 6, 8, 10, 12, 14}[dice.Under(7)]] ^= byte(1 + dice.Under(255))
		case 4: // the bytes' end
			b[16+dice.Under(48)] ^= byte(dice.Under(256))
		}
		sectors[n] = b
		if !dice.OneIn(5) {
			sectors[n] = mended(b)
		}
	}
}

func TestP14_1Model(t *testing.T) {
	dice := sample.Dice(141)
	for range 30000 {
		gen := 1 + dice.Under(3)
		l := drawnLog(&dice, gen)
		changed(&dice, l)
		lookStands(t, gen, l)
	}
}
