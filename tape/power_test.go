package tape

import (
	"slices"
	"testing"

	"lectern/api"
	"lectern/drum"
	"lectern/sample"
)

// told is what a tape's holder knows: the groups that were appended, and how many of these were there at the last Flush.
type told struct {
	groups  [][]byte
	flushed int
}

// ran is what is known behind a script on a tape, up to its first ErrDown: sizes of groups, below 0 a Flush.
func ran(t *testing.T, tape *Tape, script []int, known told) told {
	t.Helper()
	for i, size := range script {
		e := api.OK
		if size < 0 {
			e = tape.Flush()
		} else {
			e = tape.Append(slices.Repeat([]byte{byte(i + 1)}, size))
		}
		switch {
		case e == api.ErrDown:
			return known
		case e != api.OK:
			t.Fatalf("P14.2: %d of %v: %d", i, script, e)
		case size < 0:
			known.flushed = len(known.groups)
		default:
			known.groups = append(known.groups, slices.Repeat([]byte{byte(i + 1)}, size))
		}
	}
	return known
}

// lookCrash crashes a drum and looks at what a tape tells then: what was flushed, and a begin of what was appended since.
func lookCrash(t *testing.T, d *drum.Drum, lo, hi, gen int, keep []bool, known told) int {
	t.Helper()
	look(t, "Crash", d.Crash(keep), api.OK)
	tape, groups, e := Open(d, lo, hi, gen)
	if e != api.OK || len(groups) < known.flushed || len(groups) > len(known.groups) || !same(groups, known.groups[:len(groups)]) {
		t.Fatalf("P14.3: %x, %d, where %d were flushed of %x, and %v was kept", groups, e, known.flushed, known.groups, keep)
	}
	if tape.Groups() != len(groups) {
		t.Fatalf("P14.3: %d groups", tape.Groups())
	}
	// It was no step: the next opening finds the same.
	look(t, "Crash", d.Crash(nil), api.OK)
	opened(t, d, lo, hi, gen, groups...)
	return len(groups)
}

// bits is so many bools, the lowest bit of v first.
func bits(v, count int) []bool {
	l := make([]bool, count)
	for k := range l {
		l[k] = v>>k&1 == 1
	}
	return l
}

// TestP14_3AllKept: wherever the power goes in a script, and whatever the drum keeps.
func TestP14_3AllKept(t *testing.T) {
	for _, script := range [][]int{
		{10, 20, 30}, {100}, {0, 0, 0, 0, 0}, {100, -1, 100, -1}, {-1, 50, 50, -1, 200}, {49, 1, 97, -1, -1, 0}, {200, -1, 10, 10, 60, -1, 48}, {96, -1, 0, 144}, {10, 60, 100, 48, 0, 20},
	} {
		start := laid(t, 2, modelLog(6, [][]byte{row(30), row(60), row(48), nil, nil, row(200)})) // of the generation ahead
		for fuse := 0; ; fuse++ {
			d := start.Clone()
			tape := opened(t, d, 2, 12, 7)
			look(t, "Fuse", d.Fuse(fuse), api.OK)
			known := ran(t, tape, script, told{})
			loose := d.Loose()
			for v := range 1 << loose {
				lookCrash(t, d.Clone(), 2, 12, 7, bits(v, loose), known)
			}
			if !d.Down() {
				break
			}
		}
	}
}

// TestP14_3Drawn: crash behind crash; a tape of the next generation goes on, as one of each generation appends.
func TestP14_3Drawn(t *testing.T) {
	dice := sample.Dice(143)
	seen := map[bool]int{}
	for range 300 {
		d := newDrum(t, 60)
		for gen := 1; gen < 9; gen++ {
			tape := opened(t, d, 3, 57, gen)
			var script []int
			for range dice.Under(12) {
				script = append(script, drawnSize(&dice))
				if dice.OneIn(3) {
					script[len(script)-1] = -1
				}
			}
			script = script[:fitting(script, 54)]
			look(t, "Fuse", d.Fuse(dice.Under(60)), api.OK)
			known := ran(t, tape, script, told{})
			keep := bits(dice.Under(1<<30), 30)
			if dice.OneIn(3) {
				keep = bits(1<<40-1, 40)
				keep[dice.Under(40)] = false
			}
			n := lookCrash(t, d, 3, 57, gen, keep, known)
			seen[n > known.flushed]++
		}
	}
	if seen[true] < 100 || seen[false] < 100 {
		t.Errorf("%d crashes left groups that were not flushed, %d none", seen[true], seen[false])
	}
}

// fitting is how much of a script there is room for.
func fitting(script []int, sectors int) int {
	for i, size := range script {
		if size >= 0 {
			sectors -= max((size+47)/48, 1)
		}
		if sectors < 0 {
			return i
		}
	}
	return len(script)
}

// TestP14_3GoesOn: a tape of the same generation that only reads tells the same; one that goes on where nothing was lost keeps all.
func TestP14_3GoesOn(t *testing.T) {
	d := newDrum(t, 12)
	known := ran(t, opened(t, d, 0, 12, 1), []int{60, -1, 10, -1}, told{})
	look(t, "Crash", d.Crash(nil), api.OK)
	tape := opened(t, d, 0, 12, 1, known.groups...)
	known = ran(t, tape, []int{70, -1, 20, 100}, known)
	for v := range 1 << 4 {
		lookCrash(t, d.Clone(), 0, 12, 1, bits(v, 4), known)
	}
	look(t, "Crash", d.Crash(bits(15, 4)), api.OK)
	opened(t, d, 0, 12, 1, known.groups...)
}

// TestP14_4: one byte that is turned ends the tape ahead of its group.
func TestP14_4(t *testing.T) {
	groups := [][]byte{row(48), nil, row(100), row(5)}
	ahead := []int{0, 1, 2, 2, 2, 3} // how many groups stand ahead of that of each sector
	log := modelLog(2, groups)
	d := laid(t, 0, log)
	for n := range log {
		for at := range 64 {
			for turn := 1; turn < 256; turn++ {
				b := slices.Clone(log[n])
				b[at] ^= byte(turn)
				look(t, "drum's Write", d.Write(n, b), api.OK)
				_, got, e := Open(d, 0, len(log), 2)
				if !same(got, groups[:ahead[n]]) || e != api.OK {
					t.Fatalf("P14.4: sector %d, byte %d turned by %x: %x, %d", n, at, turn, got, e)
				}
			}
		}
		look(t, "drum's Crash", d.Crash(nil), api.OK)
	}
	opened(t, d, 0, len(log), 2, groups...)
}
