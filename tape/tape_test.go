package tape

import (
	"bytes"
	"encoding/hex"
	"hash/crc32"
	"math"
	"slices"
	"strings"
	"testing"

	"lectern/api"
	"lectern/drum"
	"lectern/sample"
)

func newDrum(t *testing.T, sectors int) *drum.Drum {
	t.Helper()
	d, e := drum.New(sectors)
	look(t, "drum's New", e, api.OK)
	return d
}

// look looks whether a call was answered so.
func look(t *testing.T, what string, got, want api.Errno) {
	t.Helper()
	if got != want {
		t.Errorf("%s: %d, not %d", what, got, want)
	}
}

// opened is a tape on which some groups stand.
func opened(t *testing.T, d *drum.Drum, lo, hi, gen int, want ...[]byte) *Tape {
	t.Helper()
	tape, groups, e := Open(d, lo, hi, gen)
	if tape == nil || !same(groups, want) || e != api.OK || tape.Groups() != len(want) {
		t.Fatalf("P14.1: Open(%d, %d, %d): %x, %d, not %x", lo, hi, gen, groups, e, want)
	}
	return tape
}

func lookNoTape(t *testing.T, d *drum.Drum, lo, hi, gen int, want api.Errno) {
	t.Helper()
	if tape, groups, e := Open(d, lo, hi, gen); tape != nil || len(groups) != 0 || e != want {
		t.Errorf("P14.1: Open(%d, %d, %d): %v, %x, %d, not %d", lo, hi, gen, tape, groups, e, want)
	}
}

func lookRoom(t *testing.T, tape *Tape, groups, free int) {
	t.Helper()
	if tape.Groups() != groups || tape.Free() != free {
		t.Errorf("P14.1: %d groups, %d free, not %d, %d", tape.Groups(), tape.Free(), groups, free)
	}
}

// row is so many bytes, none of them 0.
func row(size int) []byte {
	p := make([]byte, size)
	for i := range p {
		p[i] = byte(1 + i%255)
	}
	return p
}

func TestExamples(t *testing.T) {
	if s := Sum([]byte("123456789")); s != 0xcbf43926 {
		t.Errorf("P14.1: Sum: %x", s)
	}
	if Sum(nil) != 0 || Sum([]byte{}) != 0 {
		t.Error("P14.1: Sum of nothing")
	}
	tape := opened(t, newDrum(t, 4), 0, 4, 1)
	look(t, "Append of 49", tape.Append(row(49)), api.OK)
	look(t, "Append of none", tape.Append(nil), api.OK)
	lookRoom(t, tape, 2, 1)
	look(t, "Append of 49", tape.Append(row(49)), api.ErrFull)
	lookRoom(t, tape, 2, 1)
}

func TestP14_1Sum(t *testing.T) {
	for s, want := range map[string]uint32{"\x00": 0xd202ef8d, "a": 0xe8b7be43, "\xff\xff\xff\xff": 0xffffffff, "\x00\x00\x00\x00": 0x2144df1c, "The quick brown fox jumps over the lazy dog": 0x414fa339} {
		if got := Sum([]byte(s)); got != want {
			t.Errorf("P14.1: Sum(%q): %x, not %x", s, got, want)
		}
	}
	dice := sample.Dice(142)
	for size := range 600 {
		p := drawnBytes(&dice, size)
		old := slices.Clone(p)
		if got := Sum(p); got != crc32.ChecksumIEEE(old) || !bytes.Equal(p, old) {
			t.Fatalf("P14.1: Sum(%x): %x", old, got)
		}
	}
	if p := row(1 << 20); Sum(p) != crc32.ChecksumIEEE(p) {
		t.Error("P14.1: Sum of many bytes")
	}
}

func TestP14_1OpenErrors(t *testing.T) {
	d := newDrum(t, 10)
	lookNoTape(t, nil, 0, 4, 1, api.ErrNil)
	lookNoTape(t, nil, -1, 99, 0, api.ErrNil)
	for _, w := range [][3]int{
		{-1, 4, 1}, {math.MinInt, 4, 1}, {math.MinInt, math.MaxInt, 1}, {0, 11, 1}, {0, math.MaxInt, 1}, {9, 11, 1}, {10, 11, 1},
		{0, 0, 1}, {4, 4, 1}, {10, 10, 1}, {5, 4, 1}, {4, -1, 1}, {math.MaxInt, math.MinInt, 1}, {math.MaxInt, 4, 1}, {1, math.MinInt, 1},
		{0, 4, 0}, {0, 4, -1}, {0, 4, 1 << 32}, {0, 4, 1<<32 + 1}, {0, 4, math.MaxInt}, {0, 4, math.MinInt}, {0, 0, 0},
	} {
		lookNoTape(t, d, w[0], w[1], w[2], api.ErrArg)
	}
	if d.Steps() != 0 {
		t.Errorf("P14.1: a refused Open does %d steps", d.Steps())
	}
	for _, w := range [][3]int{{0, 10, 1}, {0, 1, 1}, {9, 10, 1}, {0, 4, 1<<32 - 1}, {3, 5, 1 << 31}, {0, 4, 1 << 20}} {
		lookRoom(t, opened(t, d, w[0], w[1], w[2]), 0, w[1]-w[0])
	}
	look(t, "Fuse", d.Fuse(0), api.OK)
	lookNoTape(t, d, 0, 11, 1, api.ErrArg)
	lookNoTape(t, d, 0, 4, 1, api.ErrDown)
	lookNoTape(t, d, 0, 4, 0, api.ErrArg)
	most := newDrum(t, 16384)
	lookNoTape(t, most, 0, 16385, 1, api.ErrArg)
	lookRoom(t, opened(t, most, 0, 16384, 1), 0, 16384)
}

// TestP14_1CutOpen: an opening that the power cuts is no tape, and what stands there stays.
func TestP14_1CutOpen(t *testing.T) {
	groups := [][]byte{row(100), nil, row(48)}
	d := laid(t, 1, append(modelLog(7, groups), make([]byte, 64), make([]byte, 64)))
	for fuse := range 9 {
		look(t, "Fuse", d.Fuse(fuse), api.OK)
		if fuse < 6 {
			lookNoTape(t, d, 1, 8, 7, api.ErrDown)
		} else {
			opened(t, d, 1, 8, 7, groups...)
		}
		look(t, "Crash", d.Crash(nil), api.OK)
		lookRoom(t, opened(t, d, 1, 8, 7, groups...), 3, 2)
	}
}

// TestP14_1Steps: each sector is read once, up to the first one with which no group goes on.
func TestP14_1Steps(t *testing.T) {
	blank, odd := make([]byte, 64), bytes.Repeat([]byte{0xff}, 64)
	begun := modelGroup(5, 3, 2, row(100))
	log := modelLog(5, [][]byte{row(90), nil})
	for _, l := range []struct {
		behind [][]byte
		reads  int
	}{
		{nil, 3}, {[][]byte{blank}, 4}, {[][]byte{odd, odd, odd}, 4}, {[][]byte{begun[0], odd, odd}, 5}, {begun[:2], 5}, {[][]byte{begun[0], begun[1], blank, odd}, 6}, {[][]byte{begun[1], begun[2], blank}, 4}, {begun, 6},
		{modelGroup(6, 3, 2, row(48)), 4}, {[][]byte{begun[0], begun[0], begun[2]}, 5}, {[][]byte{begun[0], begun[2], blank}, 5},
	} {
		sectors := slices.Concat(log, l.behind)
		d := laid(t, 2, sectors)
		steps, old := d.Steps(), sectorsOn(t, d, 0, d.Sectors())
		if _, _, e := Open(d, 2, 2+len(sectors), 5); e != api.OK || d.Steps()-steps != l.reads {
			t.Errorf("P14.1: %d reads, %d, not %d", d.Steps()-steps, e, l.reads)
		}
		if d.Loose() != 0 || !same(sectorsOn(t, d, 0, d.Sectors()), old) {
			t.Error("P14.1: Open writes")
		}
		lookStands(t, 5, sectors)
	}
}

// lookLeft looks whether just the first of some groups stand, where a sector is another one.
func lookLeft(t *testing.T, what string, groups [][]byte, n int, b []byte, left int) {
	t.Helper()
	sectors := modelLog(258, groups)
	sectors[n] = b
	d := laid(t, 1, sectors)
	_, got, e := Open(d, 1, 1+len(sectors), 258)
	if !same(got, groups[:left]) || e != api.OK {
		t.Errorf("P14.1: %s: %x, %d, not the first %d", what, got, e, left)
	}
}

// TestP14_1JustSo: a sector whose sum is right stands for a group only if it is the one that Append writes.
func TestP14_1JustSo(t *testing.T) {
	groups := [][]byte{row(20), row(120), row(48), nil}
	body, blank := row(120), make([]byte, 64)
	long := slices.Concat(row(20), make([]byte, 28))
	lookLeft(t, "as it is", groups, 0, modelSector(258, 0, 0, 0, 20, row(20)), 4)
	for _, l := range []struct {
		what string
		n    int
		b    []byte
		left int
	}{
		{"nothing", 0, blank, 0}, {"nothing", 1, blank, 1}, {"nothing", 3, blank, 1}, {"nothing", 4, blank, 2}, {"nothing", 5, blank, 3},
		{"the generation ahead", 0, modelSector(257, 0, 0, 0, 20, row(20)), 0},
		{"the generation behind", 4, modelSector(259, 4, 2, 0, 48, row(48)), 2},
		{"a generation that is the same in its low bytes", 0, modelSector(258+1<<16, 0, 0, 0, 20, row(20)), 0},
		{"another place", 0, modelSector(258, 1, 0, 0, 20, row(20)), 0},
		{"another place", 4, modelSector(258, 5, 2, 0, 48, row(48)), 2},
		{"another place, in the middle", 2, modelSector(258, 3, 1, 1, 48, body[48:96]), 1},
		{"another group", 0, modelSector(258, 0, 1, 0, 20, row(20)), 0},
		{"another group", 4, modelSector(258, 4, 1, 0, 48, row(48)), 2},
		{"another group, in the middle", 2, modelSector(258, 2, 2, 1, 48, body[48:96]), 1},
		{"another group, at the end", 3, modelSector(258, 3, 0, 0, 24, body[96:]), 1},
		{"one sector more behind", 0, modelSector(258, 0, 0, 1, 48, long), 0},
		{"one sector more behind", 1, modelSector(258, 1, 1, 3, 48, body[:48]), 1},
		{"one sector less behind", 1, modelSector(258, 1, 1, 1, 48, body[:48]), 1},
		{"one sector more behind, in the middle", 2, modelSector(258, 2, 1, 2, 48, body[48:96]), 1},
		{"no sector behind, in the middle", 2, modelSector(258, 2, 1, 0, 48, body[48:96]), 1},
		{"one sector behind, at the end", 3, modelSector(258, 3, 1, 1, 48, body[72:]), 1},
		{"far too many sectors behind", 4, modelSector(258, 4, 2, 65535, 48, row(48)), 2},
		{"less than all bytes, with sectors behind", 1, modelSector(258, 1, 1, 2, 47, body[:47]), 1},
		{"no bytes, with sectors behind", 1, modelSector(258, 1, 1, 2, 0, nil), 1},
		{"less than all bytes, in the middle", 2, modelSector(258, 2, 1, 1, 47, body[48:95]), 1},
		{"more than all bytes, in the middle", 2, modelSector(258, 2, 1, 1, 49, body[48:96]), 1},
		{"no bytes at the end of more", 3, modelSector(258, 3, 1, 0, 0, nil), 1},
		{"more bytes than there is room", 4, modelSector(258, 4, 2, 0, 49, row(48)), 2},
		{"far more bytes than there is room", 4, modelSector(258, 4, 2, 0, 65535, row(48)), 2},
		{"bytes more in their high byte", 0, modelSector(258, 0, 0, 0, 256+20, row(20)), 0},
		{"something behind the bytes", 0, modelSector(258, 0, 0, 0, 20, row(21)), 0},
		{"something at the sector's end", 0, modelSector(258, 0, 0, 0, 20, append(long[:47:47], 1)), 0},
		{"something behind no bytes", 5, modelSector(258, 5, 3, 0, 0, []byte{1}), 3},
		{"something at the end of no bytes", 5, modelSector(258, 5, 3, 0, 0, append(make([]byte, 47), 1)), 3},
	} {
		lookLeft(t, l.what, groups, l.n, l.b, l.left)
	}
	// These are groups of other bytes.
	groups[1] = row(97)
	lookLeft(t, "one byte at the end of more", [][]byte{row(20), row(97), row(48)}, 3, modelSector(258, 3, 1, 0, 1, row(97)[96:]), 3)
	lookLeft(t, "all bytes at the end of more", [][]byte{nil, row(96), row(48)}, 2, modelSector(258, 2, 1, 0, 48, row(96)[48:]), 3)
	lookLeft(t, "noughts", [][]byte{make([]byte, 144)}, 2, modelSector(258, 2, 0, 0, 48, nil), 1)
}

// TestP14_1Ends: a group of which the tape's last sectors hold just a part doesn't stand.
func TestP14_1Ends(t *testing.T) {
	groups := [][]byte{row(60), row(150), nil}
	log := modelLog(3, groups)
	for size := 1; size <= len(log); size++ {
		whole := 0
		for _, end := range []int{2, 6, 7} {
			if end <= size {
				whole++
			}
		}
		d := laid(t, 0, log)
		tape := opened(t, d, 0, size, 3, groups[:whole]...)
		lookRoom(t, tape, whole, size-[]int{0, 2, 6, 7}[whole])
	}
}

// TestP14_2Sectors: what Append writes, byte by byte.
func TestP14_2Sectors(t *testing.T) {
	d := newDrum(t, 8)
	tape := opened(t, d, 2, 7, 0xfedcba98)
	look(t, "Append", tape.Append([]byte("one")), api.OK)
	look(t, "Append", tape.Append(append(bytes.Repeat([]byte("x"), 48), "yz"...)), api.OK)
	want := []string{
		"fedcba98 0000 0000 0000 0003 6f6e65" + strings.Repeat("00", 45),
		"fedcba98 0001 0001 0001 0030" + strings.Repeat("78", 48),
		"fedcba98 0002 0001 0000 0002 797a" + strings.Repeat("00", 46),
	}
	for i, s := range want {
		b, err := hex.DecodeString("00000000" + strings.ReplaceAll(s, " ", ""))
		if err != nil {
			t.Fatal(err)
		}
		if got := sectorsOn(t, d, 2+i, 3+i)[0]; !bytes.Equal(got, mended(b)) {
			t.Errorf("P14.2: sector %d: %x, not %x", i, got, mended(b))
		}
	}
	for _, n := range []int{0, 1, 5, 6, 7} {
		if !bytes.Equal(sectorsOn(t, d, n, n+1)[0], make([]byte, 64)) {
			t.Errorf("P14.2: sector %d is written", n)
		}
	}
	if d.Loose() != 3 {
		t.Errorf("P14.2: %d loose, not 3", d.Loose())
	}
	look(t, "Flush", tape.Flush(), api.OK)
	if d.Loose() != 0 {
		t.Errorf("P14.2: %d loose behind Flush", d.Loose())
	}
}

// TestP14_2Sizes: how many sectors a group of each size takes, and what is written then.
func TestP14_2Sizes(t *testing.T) {
	for size := range 300 {
		count := 1
		for 48*count < size {
			count++
		}
		d := laid(t, 3, make([][]byte, count+1))
		tape := opened(t, d, 3, 4+count, 9)
		steps := d.Steps()
		look(t, "P14.2: Append", tape.Append(row(size)), api.OK)
		lookRoom(t, tape, 1, 1)
		if d.Steps()-steps != count || d.Loose() != count || Sectors(size) != count {
			t.Errorf("P14.2: Append of %d: %d steps, %d loose, Sectors %d, not %d", size, d.Steps()-steps, d.Loose(), Sectors(size), count)
		}
		look(t, "P14.2: Append", tape.Append(nil), api.OK)
		lookRoom(t, tape, 2, 0)
		got, want := sectorsOn(t, d, 3, 4+count), modelLog(9, [][]byte{row(size), nil})
		if !same(got, want) {
			t.Errorf("P14.2: Append of %d: %x, not %x", size, got, want)
		}
		for _, n := range []int{0, 1, 2, d.Sectors() - 2, d.Sectors() - 1} {
			if !bytes.Equal(sectorsOn(t, d, n, n+1)[0], bytes.Repeat([]byte{0xdd}, 64)) {
				t.Errorf("P14.2: Append of %d writes sector %d", size, n)
			}
		}
		look(t, "P14.2: Append", tape.Append(nil), api.ErrFull)
		opened(t, d, 3, 4+count, 9, row(size), nil)
	}
}

// TestP14_2Order: the sectors are written in their order, and nothing else is done; a tape that is opened again goes on behind what stands.
func TestP14_2Order(t *testing.T) {
	d := newDrum(t, 20)
	tape := opened(t, d, 5, 15, 4)
	look(t, "Append", tape.Append(row(50)), api.OK)
	look(t, "Append", tape.Append(row(130)), api.OK)
	want := modelLog(4, [][]byte{row(50), row(130)})
	for k := range 6 {
		c := d.Clone()
		look(t, "Crash", c.Crash(slices.Repeat([]bool{true}, k)), api.OK)
		kept := min(k, 5)
		got := sectorsOn(t, c, 5, 10)
		if !same(got[:kept], want[:kept]) || !same(got[kept:], slices.Repeat([][]byte{make([]byte, 64)}, 5-kept)) {
			t.Errorf("P14.2: the first %d Writes are not the first sectors: %x", k, got)
		}
	}
	steps := d.Steps()
	look(t, "Flush", tape.Flush(), api.OK)
	if d.Steps() != steps+1 || d.Loose() != 0 {
		t.Errorf("P14.2: Flush does %d steps", d.Steps()-steps)
	}
	tape = opened(t, d, 5, 15, 4, row(50), row(130))
	lookRoom(t, tape, 2, 5)
	look(t, "Append", tape.Append(row(1)), api.OK)
	look(t, "Flush", tape.Flush(), api.OK)
	want = modelLog(4, [][]byte{row(50), row(130), row(1)})
	if got := sectorsOn(t, d, 5, 11); !same(got, want) {
		t.Errorf("P14.2: %x, not %x", got, want)
	}
	// What another generation left there is none of the groups.
	tape = opened(t, d, 5, 15, 5)
	lookRoom(t, tape, 0, 10)
	look(t, "Append", tape.Append(row(2)), api.OK)
	opened(t, d, 5, 15, 5, row(2))
	opened(t, d, 5, 15, 4)
}

func TestP14_2Full(t *testing.T) {
	d := newDrum(t, 9)
	tape := opened(t, d, 2, 7, 1)
	for _, size := range []int{241, 288, 1000000} {
		look(t, "P14.2: Append of too much", tape.Append(make([]byte, size)), api.ErrFull)
	}
	lookRoom(t, tape, 0, 5)
	look(t, "P14.2: Append of all room", tape.Append(row(240)), api.OK)
	lookRoom(t, tape, 1, 0)
	for range 3 {
		look(t, "P14.2: Append of none", tape.Append(nil), api.ErrFull)
	}
	if d.Steps() != 6 {
		t.Errorf("P14.2: a refused Append does steps: %d in all", d.Steps())
	}
	look(t, "Flush of a full tape", tape.Flush(), api.OK)
	lookRoom(t, opened(t, d, 2, 7, 1, row(240)), 1, 0)
	// ErrFull is asked ahead of the power; and it isn't a step.
	look(t, "Fuse", d.Fuse(0), api.OK)
	look(t, "Append of a full tape", tape.Append(nil), api.ErrFull)
	look(t, "the drum's own Flush without power", d.Flush(), api.ErrDown)
	look(t, "Append of a full tape, where the power is off", tape.Append(nil), api.ErrFull)
	look(t, "Flush without power", tape.Flush(), api.ErrDown)
	look(t, "Append of a full tape that is down", tape.Append(nil), api.ErrDown)
}

// TestP14_2Most: a tape may take a whole drum, and hold a group in each sector.
func TestP14_2Most(t *testing.T) {
	d := newDrum(t, 16384)
	tape := opened(t, d, 0, 16384, 1<<32-1)
	groups := make([][]byte, 16384)
	for i := range groups {
		groups[i] = []byte{byte(i >> 8), byte(i)}
		if e := tape.Append(groups[i]); e != api.OK {
			t.Fatalf("P14.2: the group %d: %d", i, e)
		}
	}
	lookRoom(t, tape, 16384, 0)
	look(t, "Append of a full tape", tape.Append(nil), api.ErrFull)
	opened(t, d, 0, 16384, 1<<32-1, groups...)
	if !same(sectorsOn(t, d, 16383, 16384), modelGroup(1<<32-1, 16383, 16383, groups[16383])) {
		t.Error("P14.2: the last sector")
	}
	tape = opened(t, d, 0, 16384, 1)
	look(t, "Append of all room", tape.Append(row(16384*48)), api.OK)
	lookRoom(t, opened(t, d, 0, 16384, 1, row(16384*48)), 1, 0)
}

// TestErrDown: a tape one of whose steps was answered so isn't used any more, whatever becomes of the drum.
func TestErrDown(t *testing.T) {
	for fuse := range 5 {
		d := newDrum(t, 9)
		tape := opened(t, d, 0, 9, 1)
		look(t, "Append", tape.Append(row(70)), api.OK)
		look(t, "Fuse", d.Fuse(fuse), api.OK)
		first := api.OK
		for range fuse/4 + 1 { // each takes three Writes and the Flush
			first = tape.Append(row(100))
			if first == api.OK {
				first = tape.Flush()
			}
		}
		look(t, "a step without power", first, api.ErrDown)
		groups, free := tape.Groups(), tape.Free()
		if fuse/3 != groups-1 || free != 7-3*(groups-1) {
			t.Errorf("P14.2: Fuse(%d): %d groups, %d free", fuse, groups, free)
		}
		look(t, "Append of too much behind ErrDown", tape.Append(make([]byte, 1000)), api.ErrDown)
		look(t, "Crash", d.Crash(nil), api.OK)
		steps := d.Steps()
		for range 3 {
			look(t, "Append behind ErrDown", tape.Append(nil), api.ErrDown)
			look(t, "Flush behind ErrDown", tape.Flush(), api.ErrDown)
		}
		lookRoom(t, tape, groups, free)
		if d.Steps() != steps || d.Loose() != 0 {
			t.Errorf("P14.2: %d steps behind ErrDown", d.Steps()-steps)
		}
		other := opened(t, d, 0, 9, 2)
		look(t, "Append of another tape", other.Append(nil), api.OK)
	}
}

func TestNil(t *testing.T) {
	var tape *Tape
	look(t, "nil: Append", tape.Append(nil), api.ErrNil)
	look(t, "nil: Append", tape.Append(row(100)), api.ErrNil)
	look(t, "nil: Flush", tape.Flush(), api.ErrNil)
	lookRoom(t, tape, 0, 0)
}

// TestP1Zero: nothing is promised of a tape or a drum that no New or Open made, but that no call panics.
func TestP1Zero(t *testing.T) {
	tape := new(Tape)
	for _, size := range []int{0, 1, 100} {
		tape.Append(make([]byte, size))
		tape.Flush()
	}
	tape.Groups()
	tape.Free()
	lookNoTape(t, new(drum.Drum), 0, 1, 1, api.ErrArg)
}

// spoil writes into a row of bytes, spare room too.
func spoil(p []byte) {
	p = p[:cap(p)]
	for i := range p {
		p[i] = 0xee
	}
}

func TestMemory(t *testing.T) {
	d := newDrum(t, 12)
	tape := opened(t, d, 0, 12, 1)
	all := row(300)
	for _, p := range [][]byte{all[:60], all[100:100], all[100:110], all[20:200]} {
		look(t, "Append", tape.Append(p), api.OK)
	}
	if !bytes.Equal(all, row(300)) {
		t.Error("Append changes what is handed in")
	}
	spoil(all)
	all = row(300)
	want := [][]byte{all[:60], nil, all[100:110], all[20:200]}
	for i := range want {
		tape, groups, e := Open(d, 0, 12, 1)
		if !same(groups, want) || e != api.OK {
			t.Fatalf("P14.1: Open: %x, %d", groups, e)
		}
		spoil(groups[i])
		for k := range want {
			if k != i && !bytes.Equal(groups[k], want[k]) {
				t.Errorf("P14.1: the groups %d and %d share memory", i, k)
			}
		}
		lists := groups[:cap(groups)]
		clear(lists)
		lookRoom(t, tape, 4, 4)
	}
}
