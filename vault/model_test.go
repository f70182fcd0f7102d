package vault

import (
	"encoding/binary"
	"maps"
	"slices"
	"strings"
	"testing"

	"lectern/api"
	"lectern/drum"
	. "lectern/forge"
	"lectern/sample"
	"lectern/sheet"
	"lectern/tape"
)

// The model keeps whole states, and writes on a drum of its own just what the chapter says, in its order.

// state is the pages that are taken, and their bytes.
type state map[int]string

// modelParts is a group's pages.
func modelParts(b []byte) (stamp uint64, parts []Part) {
	for i := range int(binary.BigEndian.Uint16(b)) {
		at := 10 + 500*i
		parts = append(parts, PageOf(int(binary.BigEndian.Uint32(b[at:])), string(b[at+4:at+500])))
	}
	return binary.BigEndian.Uint64(b[2:]), parts
}

type model struct {
	disk           *drum.Drum
	log            *tape.Tape
	plan           sheet.Plan
	frames, gen    int
	groups, free   int
	stamp          uint64
	standing, now  state
	changed        map[int]bool
	busy           bool
	checkpoints    int
	fulls, commits int
}

// newModel opens the vault on a drum.
func newModel(t *testing.T, d *drum.Drum, frames int) *model {
	t.Helper()
	plan, e := sheet.Draft(d.Sectors())
	Look(t, "Draft", e, api.OK)
	m := &model{disk: d, plan: plan, frames: frames, changed: map[int]bool{}}
	h, e := sheet.GetHead(d)
	if e == api.OK {
		_, groups, _ := tape.Open(d, 2, plan.Base, h.Gen)
		m.gen, m.stamp = h.Gen, h.Stamp
		for _, b := range groups {
			var parts []Part
			m.stamp, parts = modelParts(b)
			m.write(t, parts)
		}
		Look(t, "Flush", d.Flush(), api.OK)
	}
	m.turn(t)
	m.standing = state{}
	bits, _, e := sheet.Get(d, 0)
	Look(t, "Get", e, api.OK)
	for n := 1; n < plan.Pages; n++ {
		if bits[n/8]>>(n%8)%2 == 1 {
			p, _, e := sheet.Get(d, n)
			Look(t, "Get", e, api.OK)
			m.standing[n] = string(p)
		}
	}
	m.now = maps.Clone(m.standing)
	return m
}

// write writes pages.
func (m *model) write(t *testing.T, parts []Part) {
	t.Helper()
	for _, l := range parts {
		Look(t, "sheet's Put", sheet.Put(m.disk, l.N, m.stamp, []byte(l.P)), api.OK)
	}
}

// turn begins the next generation.
func (m *model) turn(t *testing.T) {
	t.Helper()
	m.gen++
	Look(t, "PutHead", sheet.PutHead(m.disk, sheet.Head{Gen: m.gen, Stamp: m.stamp}), api.OK)
	Look(t, "Flush", m.disk.Flush(), api.OK)
	m.log, _, _ = tape.Open(m.disk, 2, m.plan.Base, m.gen)
	m.groups, m.free = 0, m.plan.Log
}

func (m *model) begin() api.Errno {
	if m.busy {
		return api.ErrState
	}
	m.busy = true
	return api.OK
}

// wouldBe is whether there may be these changed pages, and those that were changed but for one.
func (m *model) wouldBe(but int, more ...int) bool {
	c := maps.Clone(m.changed)
	delete(c, but)
	for _, n := range more {
		c[n] = true
	}
	return len(c) < m.frames
}

func (m *model) alloc() (int, api.Errno) {
	if !m.busy {
		return 0, api.ErrState
	}
	n := 1
	for m.now[n] != "" {
		n++
	}
	switch {
	case n >= m.plan.Pages:
		return 0, api.ErrFull
	case !m.wouldBe(-1, 0, n):
		return 0, api.ErrLimit
	}
	m.now[n] = Whole("")
	m.changed[0], m.changed[n] = true, true
	return n, api.OK
}

func (m *model) freed(n int) api.Errno {
	switch {
	case !m.busy:
		return api.ErrState
	case m.now[n] == "":
		return api.ErrArg
	case !m.wouldBe(n, 0):
		return api.ErrLimit
	}
	delete(m.now, n)
	delete(m.changed, n)
	m.changed[0] = true
	return api.OK
}

func (m *model) put(n int, p string) api.Errno {
	switch {
	case !m.busy:
		return api.ErrState
	case m.now[n] == "":
		return api.ErrArg
	case len(p) > 496:
		return api.ErrLong
	case !m.wouldBe(-1, n):
		return api.ErrLimit
	}
	m.now[n] = Whole(p)
	m.changed[n] = true
	return api.OK
}

// close closes the transaction with a state.
func (m *model) close(s state) {
	m.busy, m.changed = false, map[int]bool{}
	m.standing, m.now = s, maps.Clone(s)
}

func (m *model) abort() api.Errno {
	if !m.busy {
		return api.ErrState
	}
	m.close(m.standing)
	return api.OK
}

func (m *model) commit(t *testing.T) api.Errno {
	t.Helper()
	count := len(m.changed)
	sectors := (10 + 500*count + 47) / 48
	switch {
	case !m.busy:
		return api.ErrState
	case count == 0:
		m.close(m.now)
		return api.OK
	case sectors > m.plan.Log:
		m.fulls++
		m.close(m.standing)
		return api.ErrFull
	case sectors > m.free:
		m.checkpoints++
		m.empty(t)
	}
	m.stamp++
	parts := m.parts()
	Look(t, "Append", m.log.Append(GroupOf(count, m.stamp, parts...)), api.OK)
	Look(t, "Flush", m.log.Flush(), api.OK)
	m.write(t, parts)
	m.groups++
	m.free -= sectors
	m.commits++
	m.close(m.now)
	return api.OK
}

// parts is the changed pages, by number.
func (m *model) parts() []Part {
	var l []Part
	for _, n := range slices.Sorted(maps.Keys(m.changed)) {
		p := m.now[n]
		if n == 0 {
			p = MapOf(slices.Sorted(maps.Keys(m.now))...)
		}
		l = append(l, PageOf(n, p))
	}
	return l
}

func (m *model) checkpoint(t *testing.T) api.Errno {
	t.Helper()
	if m.busy {
		return api.ErrState
	}
	m.empty(t)
	return api.OK
}

func (m *model) empty(t *testing.T) {
	t.Helper()
	Look(t, "Flush", m.disk.Flush(), api.OK)
	m.turn(t)
}

// stateOf is the state of a vault.
func stateOf(t *testing.T, v *Vault) state {
	t.Helper()
	s := state{}
	for _, n := range v.Taken() {
		p, e := v.Get(n)
		Look(t, "P17.2: Get", e, api.OK)
		s[n] = string(p)
	}
	return s
}

// shown is a state in few words.
func shown(s state) string {
	var w strings.Builder
	for _, n := range slices.Sorted(maps.Keys(s)) {
		w.WriteString(strings.TrimRight(string(rune('0'+n))+":"+s[n], "\x00") + " ")
	}
	return w.String()
}

// lookModel looks whether a vault, and what is written, is what the model says.
func lookModel(t *testing.T, dice *sample.Dice, v *Vault, m *model) {
	t.Helper()
	lookNumbers(t, v, m.gen, m.groups, m.busy)
	lookTaken(t, v, slices.Sorted(maps.Keys(m.now))...)
	n := dice.Under(m.plan.Pages+2) - 1
	p, e := v.Get(n)
	if string(p) != m.now[n] || (e == api.ErrArg) != (m.now[n] == "") {
		t.Fatalf("P17.2: Get(%d): %q, %d, not %q", n, p, e, m.now[n])
	}
	if v.disk.Loose() != m.disk.Loose() || dice.OneIn(8) && Sectors(t, v.disk) != Sectors(t, m.disk) {
		t.Fatalf("P17.5: what is written differs")
	}
	if dice.OneIn(16) { // in another order other Writes would stand
		if s := stateOf(t, v); !maps.Equal(s, m.now) {
			t.Fatalf("P17.2: %q, not %q", shown(s), shown(m.now))
		}
		keep := drawnKeep(dice, v.disk.Loose())
		c, d := v.disk.Clone(), m.disk.Clone()
		Look(t, "Crash", c.Crash(keep), api.OK)
		Look(t, "Crash", d.Crash(keep), api.OK)
		if Sectors(t, c) != Sectors(t, d) {
			t.Fatalf("P17.5: what is written differs in its order")
		}
	}
}

// drawnKeep is what a drum keeps of so many Writes.
func drawnKeep(dice *sample.Dice, loose int) []bool {
	keep := make([]bool, loose)
	way, at := dice.Under(6), dice.Under(loose+1)
	for k := range keep {
		switch way {
		case 0: // none
		case 1:
			keep[k] = k < at
		case 2:
			keep[k] = k != at
		case 3:
			keep[k] = k >= at
		default:
			keep[k] = dice.OneIn(2)
		}
	}
	return keep
}

// lookStep does one drawn thing with a vault and with the model.
func lookStep(t *testing.T, dice *sample.Dice, v *Vault, m *model) {
	t.Helper()
	n := dice.Under(m.plan.Pages)
	if l := v.Taken(); len(l) > 0 && !dice.OneIn(4) {
		n = l[dice.Under(len(l))]
	}
	switch dice.Under(16) {
	case 0, 1, 2:
		Look(t, "P17.2: Begin", v.Begin(), m.begin())
	case 3, 4, 5, 6:
		got, e := v.Alloc()
		if want, f := m.alloc(); got != want || e != f {
			t.Fatalf("P17.2: Alloc: %d, %d, not %d, %d", got, e, want, f)
		}
	case 7, 8:
		Look(t, "P17.2: Free", v.Free(n), m.freed(n))
	case 9, 10, 11, 12:
		p := strings.Repeat(string(rune('a'+dice.Under(26))), dice.Under(499))
		Look(t, "P17.2: Put", v.Put(n, []byte(p)), m.put(n, p))
	case 13:
		Look(t, "P17.3: Commit", v.Commit(), m.commit(t))
	case 14:
		if dice.OneIn(3) {
			Look(t, "P17.2: Abort", v.Abort(), m.abort())
		} else {
			Look(t, "P17.3: Commit", v.Commit(), m.commit(t))
		}
	case 15:
		if dice.OneIn(4) {
			Look(t, "P17.4: Checkpoint", v.Checkpoint(), m.checkpoint(t))
		}
	}
}

// TestModel: vaults are what the model says, behind crashes too.
func TestModel(t *testing.T) {
	dice := sample.Dice(171)
	checkpoints, fulls, commits := 0, 0, 0
	for range 80 {
		sectors := 64 + dice.Under(200)
		d, c := NewDrum(t, sectors), NewDrum(t, sectors)
		for range 6 {
			frames := 4 + dice.Under(6)
			v := opened(t, d, frames)
			m := newModel(t, c, frames)
			for range 150 {
				lookModel(t, &dice, v, m)
				lookStep(t, &dice, v, m)
			}
			lookModel(t, &dice, v, m)
			checkpoints, fulls, commits = checkpoints+m.checkpoints, fulls+m.fulls, commits+m.commits
			if dice.OneIn(4) { // the next opening finds Writes that are loose
				continue
			}
			keep := drawnKeep(&dice, d.Loose())
			Look(t, "Crash", d.Crash(keep), api.OK)
			Look(t, "Crash", c.Crash(keep), api.OK)
		}
	}
	if checkpoints < 100 || fulls < 100 || commits < 1000 {
		t.Errorf("%d checkpoints of Commits, %d ErrFulls, %d groups", checkpoints, fulls, commits)
	}
}
