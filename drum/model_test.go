package drum

import (
	"bytes"
	"slices"
	"testing"

	"lectern/api"
	"lectern/sample"
)

// The model has no sectors: it keeps the Writes that weren't lost, and looks for a sector's last one.

type modelWrite struct {
	n     int
	text  string
	stand bool
}

type model struct {
	sectors, steps, left int // left below 0: there is no fuse
	off                  bool
	writes               []modelWrite
}

func (m *model) copied() *model {
	c := *m
	c.writes = slices.Clone(m.writes)
	return &c
}

// spent is whether a step is answered OK.
func (m *model) spent() bool {
	m.off = m.off || m.left == 0
	if m.off {
		return false
	}
	m.left--
	m.steps++
	return true
}

func (m *model) read(n int) (string, api.Errno) {
	if n < 0 || n >= m.sectors {
		return "", api.ErrArg
	}
	if !m.spent() {
		return "", api.ErrDown
	}
	for i := len(m.writes) - 1; i >= 0; i-- {
		if m.writes[i].n == n {
			return string(filled(m.writes[i].text)), api.OK
		}
	}
	return string(filled("")), api.OK
}

func (m *model) write(n int, s string) api.Errno {
	switch {
	case n < 0 || n >= m.sectors:
		return api.ErrArg
	case len(s) > 64:
		return api.ErrLong
	case !m.spent():
		return api.ErrDown
	}
	m.writes = append(m.writes, modelWrite{n: n, text: s})
	return api.OK
}

func (m *model) flush() api.Errno {
	if !m.spent() {
		return api.ErrDown
	}
	for i := range m.writes {
		m.writes[i].stand = true
	}
	return api.OK
}

func (m *model) loose() int {
	n := 0
	for _, w := range m.writes {
		if !w.stand {
			n++
		}
	}
	return n
}

func (m *model) crash(keep []bool) {
	var left []modelWrite
	for _, w := range m.writes {
		if !w.stand {
			w.stand = len(keep) > 0 && keep[0]
			keep = keep[min(1, len(keep)):]
		}
		if w.stand {
			left = append(left, w)
		}
	}
	m.writes, m.left, m.off = left, -1, false
}

func (m *model) fuse(steps int) api.Errno {
	if steps < 0 {
		return api.ErrArg
	}
	m.left = steps
	return api.OK
}

// lookStep does one drawn thing with a drum and with the model.
func lookStep(t *testing.T, dice *sample.Dice, d *Drum, m *model) {
	t.Helper()
	n := dice.Under(m.sectors)
	if dice.OneIn(30) {
		n = dice.Under(2)*(m.sectors+1) - 1
	}
	switch dice.Under(12) {
	case 0, 1, 2:
		got, e := d.Read(n)
		if want, f := m.read(n); string(got) != want || e != f {
			t.Fatalf("P13.1: Read(%d): %q, %d, not %q, %d", n, got, e, want, f)
		}
	case 3, 4, 5, 6, 7:
		p := bytes.Repeat([]byte{byte(1 + dice.Under(255))}, dice.Under(66))
		look(t, "P13.1: Write", d.Write(n, p), m.write(n, string(p)))
	case 8:
		look(t, "P13.1: Flush", d.Flush(), m.flush())
	case 9:
		steps := dice.Under(40) - 1
		look(t, "P13.2: Fuse", d.Fuse(steps), m.fuse(steps))
	case 10:
		keep := bits(dice.Under(1<<30), dice.Under(20))
		look(t, "P13.2: Crash", d.Crash(keep), api.OK)
		m.crash(keep)
	}
	if d.Loose() != m.loose() || d.Steps() != m.steps || d.Down() != m.off || d.Sectors() != m.sectors {
		t.Fatalf("P13.2: %d loose, %d steps, down %v, %d sectors, not %d, %d, %v, %d", d.Loose(), d.Steps(), d.Down(), d.Sectors(), m.loose(), m.steps, m.off, m.sectors)
	}
}

// TestModel: drums, and clones of them by turns, are what the model says.
func TestModel(t *testing.T) {
	dice := sample.Dice(131)
	for range 600 {
		sectors := 1 + dice.Under(6)
		drums, models := []*Drum{made(t, sectors)}, []*model{{sectors: sectors, left: -1}}
		for range 300 {
			i := dice.Under(len(drums))
			lookStep(t, &dice, drums[i], models[i])
			if len(drums) < 5 && dice.OneIn(50) {
				drums, models = append(drums, drums[i].Clone()), append(models, models[i].copied())
			}
		}
		for i, d := range drums {
			look(t, "P13.2: Crash", d.Crash(nil), api.OK)
			models[i].crash(nil)
			for n := range sectors {
				got, e := d.Read(n)
				if want, f := models[i].read(n); string(got) != want || e != f {
					t.Fatalf("P13.2: Read(%d) at the end: %q, %d, not %q, %d", n, got, e, want, f)
				}
			}
		}
	}
}
