package drum

import (
	"bytes"
	"math"
	"testing"

	"lectern/api"
)

// made is a new drum.
func made(t *testing.T, sectors int) *Drum {
	t.Helper()
	d, e := New(sectors)
	if d == nil || e != api.OK {
		t.Fatalf("P13.1: New(%d): %v, %d", sectors, d, e)
	}
	return d
}

// filled is a whole sector that begins with s.
func filled(s string) []byte {
	b := make([]byte, 64)
	copy(b, s)
	return b
}

func lookSector(t *testing.T, d *Drum, n int, want string) {
	t.Helper()
	if p, e := d.Read(n); !bytes.Equal(p, filled(want)) || e != api.OK {
		t.Errorf("P13.1: Read(%d): %q, %d, not %q", n, p, e, want)
	}
}

func lookNoSector(t *testing.T, d *Drum, n int, want api.Errno) {
	t.Helper()
	if p, e := d.Read(n); len(p) != 0 || e != want {
		t.Errorf("Read(%d): %q, %d, not %d", n, p, e, want)
	}
}

// look looks whether a call was answered so.
func look(t *testing.T, what string, got, want api.Errno) {
	t.Helper()
	if got != want {
		t.Errorf("%s: %d, not %d", what, got, want)
	}
}

// written is what Write answers of a text.
func written(d *Drum, n int, s string) api.Errno { return d.Write(n, []byte(s)) }

func lookCounts(t *testing.T, d *Drum, loose, steps int, down bool) {
	t.Helper()
	if d.Loose() != loose || d.Steps() != steps || d.Down() != down {
		t.Errorf("P13.2: %d loose, %d steps, down %v, not %d, %d, %v", d.Loose(), d.Steps(), d.Down(), loose, steps, down)
	}
}

func TestExamples(t *testing.T) {
	d := made(t, 2)
	look(t, "Write", written(d, 0, "a"), api.OK)
	look(t, "Flush", d.Flush(), api.OK)
	look(t, "Write", written(d, 0, "b"), api.OK)
	look(t, "Write", written(d, 1, "c"), api.OK)
	look(t, "Crash", d.Crash([]bool{false, true}), api.OK)
	lookCounts(t, d, 0, 4, false)
	lookSector(t, d, 0, "a")
	lookSector(t, d, 1, "c")

	d = made(t, 1)
	look(t, "Fuse", d.Fuse(1), api.OK)
	look(t, "Write", written(d, 0, "a"), api.OK)
	look(t, "Flush", d.Flush(), api.ErrDown)
	lookNoSector(t, d, 0, api.ErrDown)
	look(t, "Crash", d.Crash(nil), api.OK)
	lookSector(t, d, 0, "")
	lookCounts(t, d, 0, 2, false)
}

func TestP13_1New(t *testing.T) {
	for _, n := range []int{0, -1, -64, 16385, 16448, 1 << 32, 1<<32 + 1, math.MaxInt, math.MinInt} {
		if d, e := New(n); d != nil || e != api.ErrArg {
			t.Errorf("P13.1: New(%d): %v, %d", n, d, e)
		}
	}
	for _, n := range []int{1, 2, 63, 64, 16383, 16384} {
		d := made(t, n)
		if d.Sectors() != n {
			t.Errorf("P13.1: New(%d) has %d sectors", n, d.Sectors())
		}
		lookCounts(t, d, 0, 0, false)
		for i := range n {
			lookSector(t, d, i, "")
		}
		lookNoSector(t, d, n, api.ErrArg)
		lookCounts(t, d, 0, n, false)
	}
}

func TestP13_1Write(t *testing.T) {
	d := made(t, 3)
	for _, size := range []int{64, 0, 63, 1, 64, 48} {
		p := bytes.Repeat([]byte{byte(0x80 + size)}, size)
		look(t, "P13.1: Write", d.Write(1, p), api.OK)
		lookSector(t, d, 1, string(p))
		look(t, "P13.1: Flush", d.Flush(), api.OK)
		lookSector(t, d, 1, string(p))
	}
	look(t, "P13.1: Write", d.Write(1, nil), api.OK)
	lookSector(t, d, 1, "")
	for i, s := range []string{"first", "second", "third"} {
		look(t, "P13.1: Write", written(d, i, s), api.OK)
	}
	for i, s := range []string{"first", "second", "third"} {
		lookSector(t, d, i, s)
	}
	if d.Sectors() != 3 {
		t.Errorf("P13.1: %d sectors", d.Sectors())
	}
}

func TestP13_1Loose(t *testing.T) {
	d := made(t, 4)
	look(t, "Flush of nothing", d.Flush(), api.OK)
	for k, n := range []int{0, 3, 0, 0, 1} {
		look(t, "Write", written(d, n, "abcde"[k:]), api.OK)
		lookCounts(t, d, k+1, k+2, false)
	}
	lookSector(t, d, 0, "de")
	lookCounts(t, d, 5, 7, false)
	look(t, "Flush", d.Flush(), api.OK)
	lookCounts(t, d, 0, 8, false)
	look(t, "Write", written(d, 0, "de"), api.OK)
	lookCounts(t, d, 1, 9, false)
	look(t, "Crash", d.Crash(nil), api.OK)
	lookCounts(t, d, 0, 9, false)
	for n, want := range []string{"de", "e", "", "bcde"} {
		lookSector(t, d, n, want)
	}
}

// TestErrors: which error is answered first; what is refused is no step, does nothing, and doesn't burn the fuse.
func TestErrors(t *testing.T) {
	long := bytes.Repeat([]byte("x"), 65)
	for _, fuse := range []int{0, 1, 9} {
		d := made(t, 2)
		look(t, "Write", written(d, 1, "a"), api.OK)
		look(t, "Fuse", d.Fuse(fuse), api.OK)
		for range 20 {
			for _, n := range []int{-1, 2, 64, 1 << 32, math.MaxInt, math.MinInt} {
				lookNoSector(t, d, n, api.ErrArg)
				look(t, "Write outside", d.Write(n, nil), api.ErrArg)
				look(t, "Write outside of too much", d.Write(n, long), api.ErrArg)
			}
			look(t, "Write of too much", d.Write(0, long), api.ErrLong)
			look(t, "Write of far too much", d.Write(1, make([]byte, 100000)), api.ErrLong)
			look(t, "Fuse below 0", d.Fuse(-1), api.ErrArg)
			look(t, "Fuse far below 0", d.Fuse(math.MinInt), api.ErrArg)
		}
		lookCounts(t, d, 1, 1, false)
		for range fuse {
			lookSector(t, d, 1, "a")
		}
		lookCounts(t, d, 1, 1+fuse, false)
		lookNoSector(t, d, 1, api.ErrDown)
		lookCounts(t, d, 1, 1+fuse, true)
		lookNoSector(t, d, 2, api.ErrArg)
		look(t, "down: Write outside", d.Write(-1, long), api.ErrArg)
		look(t, "down: Write of too much", d.Write(0, long), api.ErrLong)
		look(t, "down: Write", d.Write(0, nil), api.ErrDown)
		look(t, "down: Flush", d.Flush(), api.ErrDown)
		look(t, "down: Fuse below 0", d.Fuse(-1), api.ErrArg)
		lookCounts(t, d, 1, 1+fuse, true)
		look(t, "Crash", d.Crash(nil), api.OK)
		lookSector(t, d, 0, "")
		lookSector(t, d, 1, "")
	}
}

func TestNil(t *testing.T) {
	var d *Drum
	lookNoSector(t, d, 0, api.ErrNil)
	lookNoSector(t, d, -1, api.ErrNil)
	look(t, "nil: Write", d.Write(0, nil), api.ErrNil)
	look(t, "nil: Write", d.Write(-1, make([]byte, 65)), api.ErrNil)
	look(t, "nil: Flush", d.Flush(), api.ErrNil)
	look(t, "nil: Fuse", d.Fuse(0), api.ErrNil)
	look(t, "nil: Fuse", d.Fuse(-1), api.ErrNil)
	look(t, "nil: Crash", d.Crash(nil), api.ErrNil)
	look(t, "nil: Crash", d.Crash([]bool{true}), api.ErrNil)
	if d.Sectors() != 0 || d.Clone() != nil {
		t.Error("P1: a nil drum has something")
	}
	lookCounts(t, d, 0, 0, false)
}

// TestP1Zero: nothing is promised of a drum that isn't New's, but that no call of it panics.
func TestP1Zero(t *testing.T) {
	d := new(Drum)
	for _, n := range []int{0, -1, 1, math.MaxInt} {
		d.Read(n)
		d.Write(n, []byte("a"))
		d.Fuse(n)
		d.Flush()
		d.Crash([]bool{true, true})
	}
	c := d.Clone()
	c.Flush()
	c.Crash(nil)
	lookNoSector(t, c, 0, api.ErrArg)
}

// step does the i-th of three kinds of steps.
func step(d *Drum, i int) api.Errno {
	switch i % 3 {
	case 0:
		return d.Write(0, []byte("s"))
	case 1:
		_, e := d.Read(1)
		return e
	}
	return d.Flush()
}

// TestP13_2Fuse: each kind of step counts, and each may be the one that the power goes with.
func TestP13_2Fuse(t *testing.T) {
	for first := range 3 {
		for fuse := range 8 {
			d := made(t, 2)
			look(t, "Write", written(d, 1, "w"), api.OK)
			look(t, "Fuse", d.Fuse(fuse), api.OK)
			for i := range fuse {
				look(t, "P13.2: a step ahead of the fuse's end", step(d, first+i), api.OK)
				if d.Steps() != i+2 || d.Down() {
					t.Fatalf("P13.2: Fuse(%d): %d steps, down %v", fuse, d.Steps(), d.Down())
				}
			}
			loose := d.Loose()
			for i := range 4 {
				look(t, "P13.2: a step behind the fuse's end", step(d, first+fuse+i), api.ErrDown)
				lookCounts(t, d, loose, fuse+1, true)
			}
		}
	}
}

func TestP13_2LaterFuse(t *testing.T) {
	d := made(t, 2)
	look(t, "Fuse", d.Fuse(2), api.OK)
	look(t, "Flush", d.Flush(), api.OK)
	look(t, "Fuse", d.Fuse(3), api.OK) // not 1 more, and not 4 more
	for range 3 {
		look(t, "Flush", d.Flush(), api.OK)
	}
	look(t, "P13.2: Flush", d.Flush(), api.ErrDown)
	// A fuse that is laid while the power is off doesn't bring it back, and doesn't outlast the crash.
	look(t, "Fuse", d.Fuse(2), api.OK)
	lookCounts(t, d, 0, 4, true)
	look(t, "P13.2: Flush", d.Flush(), api.ErrDown)
	look(t, "Crash", d.Crash(nil), api.OK)
	lookCounts(t, d, 0, 4, false)
	for range 9 {
		look(t, "P13.2: Flush behind a crash", d.Flush(), api.OK)
	}
	// Nor does one that is laid while it is on.
	look(t, "Fuse", d.Fuse(0), api.OK)
	lookCounts(t, d, 0, 13, false)
	look(t, "Crash", d.Crash(nil), api.OK)
	look(t, "P13.2: Flush behind a crash", d.Flush(), api.OK)
	look(t, "Fuse", d.Fuse(0), api.OK)
	look(t, "Fuse", d.Fuse(math.MaxInt), api.OK)
	look(t, "P13.2: Flush with a long fuse", d.Flush(), api.OK)
	look(t, "Fuse", d.Fuse(5), api.OK)
	look(t, "Fuse", d.Fuse(0), api.OK)
	look(t, "P13.2: Flush with no fuse left", d.Flush(), api.ErrDown)
}

// bits is so many bools, the lowest bit of v first.
func bits(v, count int) []bool {
	l := make([]bool, count)
	for k := range l {
		l[k] = v>>k&1 == 1
	}
	return l
}

// TestP13_2Crash: whatever is kept of four loose Writes, three of them of one sector, and however long the list of what is kept.
func TestP13_2Crash(t *testing.T) {
	places, texts := []int{1, 0, 1, 1}, []string{"one", "two", "3", "four"}
	for _, down := range []bool{false, true} {
		for count := range 8 {
			for v := range 1 << count {
				d := made(t, 3)
				look(t, "Write", written(d, 1, "stands"), api.OK)
				look(t, "Write", written(d, 2, "too"), api.OK)
				look(t, "Flush", d.Flush(), api.OK)
				for k, n := range places {
					look(t, "Write", written(d, n, texts[k]), api.OK)
				}
				if down {
					look(t, "Fuse", d.Fuse(0), api.OK)
					look(t, "Flush", d.Flush(), api.ErrDown)
				}
				keep, want := bits(v, count), []string{"", "stands", "too"}
				for k := range min(count, 4) {
					if keep[k] {
						want[places[k]] = texts[k]
					}
				}
				lookCounts(t, d, 4, 7, down)
				look(t, "Crash", d.Crash(keep), api.OK)
				lookCounts(t, d, 0, 7, false)
				for n, s := range want {
					lookSector(t, d, n, s)
				}
				// What stands, stands in later crashes, too.
				look(t, "Write", written(d, 1, "lost"), api.OK)
				look(t, "Crash", d.Crash([]bool{false, true, true, true, true}), api.OK)
				for n, s := range want {
					lookSector(t, d, n, s)
				}
			}
		}
	}
}

func TestP13_3Clone(t *testing.T) {
	d := made(t, 3)
	look(t, "Write", written(d, 0, "a"), api.OK)
	look(t, "Flush", d.Flush(), api.OK)
	look(t, "Write", written(d, 0, "b"), api.OK)
	look(t, "Write", written(d, 1, "c"), api.OK)
	look(t, "Fuse", d.Fuse(3), api.OK)
	c := d.Clone()
	lookCounts(t, c, 2, 4, false)
	if c == d || c.Sectors() != 3 {
		t.Error("P13.3: Clone isn't another drum of 3 sectors")
	}
	lookSector(t, c, 0, "b")
	look(t, "Write", written(c, 1, "of the clone"), api.OK)
	look(t, "Flush", c.Flush(), api.OK)
	look(t, "Flush", c.Flush(), api.ErrDown) // the fuse had 3 steps more
	lookCounts(t, c, 0, 7, true)
	look(t, "Fuse", c.Fuse(100), api.OK)

	lookCounts(t, d, 2, 4, false)
	again, down := d.Clone(), c.Clone()
	lookCounts(t, down, 0, 7, true)
	look(t, "Crash", c.Crash(nil), api.OK)
	lookNoSector(t, down, 0, api.ErrDown)
	look(t, "Crash", d.Crash([]bool{true}), api.OK)
	lookSector(t, d, 0, "b")
	lookSector(t, d, 1, "")
	lookSector(t, c, 1, "of the clone")
	for range 9 {
		look(t, "Flush", d.Flush(), api.OK)
	}
	// The third one has the fuse and both loose Writes all the same.
	look(t, "Write", written(again, 2, "d"), api.OK)
	lookCounts(t, again, 3, 5, false)
	look(t, "Crash", again.Crash([]bool{false, true, true}), api.OK)
	for n, s := range []string{"a", "c", "d"} {
		lookSector(t, again, n, s)
	}
	lookSector(t, d, 2, "")
}

// TestP13_3CloneRoom: Writes behind a Clone don't meet in the spare room of what was loose.
func TestP13_3CloneRoom(t *testing.T) {
	for count := range 20 {
		d := made(t, 2)
		for range count {
			look(t, "Write", written(d, 0, "x"), api.OK)
		}
		c := d.Clone()
		look(t, "Write", written(d, 1, "of the drum"), api.OK)
		look(t, "Write", written(c, 1, "of the clone"), api.OK)
		keep := append(make([]bool, count), true)
		look(t, "Crash", d.Crash(keep), api.OK)
		look(t, "Crash", c.Crash(keep), api.OK)
		lookSector(t, d, 1, "of the drum")
		lookSector(t, c, 1, "of the clone")
	}
}

// spoil writes into a row of bytes, spare room too.
func spoil(p []byte) {
	p = p[:cap(p)]
	for i := range p {
		p[i] = 0xee
	}
}

func TestP13_3Memory(t *testing.T) {
	d := made(t, 2)
	room := bytes.Repeat([]byte("r"), 100)
	p := room[10:13]
	look(t, "Write", d.Write(0, p), api.OK)
	look(t, "Write", d.Write(1, p), api.OK)
	keep := []bool{true, true, false}
	short := keep[:1]
	if !bytes.Equal(room, bytes.Repeat([]byte("r"), 100)) {
		t.Error("P13.3: Write changes what is handed in")
	}
	spoil(room)
	lookSector(t, d, 0, "rrr")
	first, _ := d.Read(0)
	second, _ := d.Read(0)
	spoil(first)
	if !bytes.Equal(second, filled("rrr")) {
		t.Error("P13.1: two answers share memory")
	}
	spoil(second)
	lookSector(t, d, 0, "rrr")
	c := d.Clone()
	look(t, "Flush", c.Flush(), api.OK)
	third, _ := c.Read(0)
	spoil(third)
	look(t, "Crash", c.Crash(nil), api.OK)
	lookSector(t, c, 0, "rrr")
	look(t, "Crash", d.Crash(short), api.OK)
	if !keep[0] || !keep[1] || keep[2] {
		t.Error("P13.3: Crash changes what is handed in")
	}
	keep[0] = false
	lookSector(t, d, 0, "rrr")
	lookSector(t, d, 1, "")
	fourth, _ := d.Read(0)
	spoil(fourth)
	look(t, "Crash", d.Crash(nil), api.OK)
	lookSector(t, d, 0, "rrr")
}
