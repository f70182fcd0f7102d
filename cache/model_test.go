package cache

import (
	"slices"
	"testing"

	"lectern/api"
	"lectern/sample"
)

// The model is a list of entries, the one that was used longest ago first; a key is sought by going through it.

type modelEntry struct {
	key   string
	value int
	dirty bool
	pins  int
}

type model struct {
	places int
	list   []modelEntry
}

func (m *model) at(k string) int {
	return slices.IndexFunc(m.list, func(e modelEntry) bool { return e.key == k })
}

// used is the entry at i, which stands last then.
func (m *model) used(i int) modelEntry {
	e := m.list[i]
	m.list = append(slices.Delete(m.list, i, i+1), e)
	return e
}

func (m *model) get(k string) (int, bool) {
	i := m.at(k)
	if i < 0 {
		return 0, false
	}
	return m.used(i).value, true
}

func (m *model) put(k string, v int, dirty bool) api.Errno {
	if i := m.at(k); i >= 0 {
		m.list[i].value = v
		m.list[i].dirty = m.list[i].dirty || dirty
		m.used(i)
		return api.OK
	}
	if len(m.list) == m.places {
		i := slices.IndexFunc(m.list, func(e modelEntry) bool { return !e.dirty && e.pins == 0 })
		if i < 0 {
			return api.ErrFull
		}
		m.list = slices.Delete(m.list, i, i+1)
	}
	m.list = append(m.list, modelEntry{k, v, dirty, 0})
	return api.OK
}

func (m *model) drop(k string) bool {
	i := m.at(k)
	if i < 0 || m.list[i].pins > 0 {
		return false
	}
	m.list = slices.Delete(m.list, i, i+1)
	return true
}

func (m *model) pin(k string, by int) bool {
	i := m.at(k)
	if i < 0 || m.list[i].pins+by < 0 {
		return false
	}
	m.list[i].pins += by
	return true
}

func (m *model) clean(k string) bool {
	i := m.at(k)
	if i < 0 || !m.list[i].dirty {
		return false
	}
	m.list[i].dirty = false
	return true
}

// keys is the keys in order: all of them, or those of dirty entries.
func (m *model) keys(dirtyAlone bool) []string {
	var l []string
	for _, e := range m.list {
		if e.dirty || !dirtyAlone {
			l = append(l, e.key)
		}
	}
	return l
}

// lookDrawn does one drawn thing with a cache and with the model, and tells which.
func lookDrawn(t *testing.T, dice *sample.Dice, c *Cache[string, int], m *model) string {
	t.Helper()
	k := dice.Of("a", "b", "c", "d", "e", "f", "g", "h", "", "aa", "A", "é")
	var got, want bool
	what := ""
	switch dice.Under(13) {
	case 0, 1, 2:
		v, ok := c.Get(k)
		wantV, wantOK := m.get(k)
		if v != wantV {
			t.Fatalf("P16.1: Get(%s): %d, %v, not %d, %v", k, v, ok, wantV, wantOK)
		}
		what, got, want = "P16.1: Get", ok, wantOK
	case 3, 4, 5, 6, 7:
		v, dirty := 1+dice.Under(1000), dice.OneIn(3)
		e := c.Put(k, v, dirty)
		if wantE := m.put(k, v, dirty); e != wantE {
			t.Fatalf("P16.1: Put(%s, %d, %v): %d, not %d", k, v, dirty, e, wantE)
		}
		what, got, want = "P16.1: Put", e == api.OK, e == api.OK
	case 8:
		what, got, want = "P16.2: Drop", c.Drop(k), m.drop(k)
	case 9:
		what, got, want = "P16.2: Pin", c.Pin(k), m.pin(k, 1)
	case 10, 11:
		what, got, want = "P16.2: Unpin", c.Unpin(k), m.pin(k, -1)
	case 12:
		what, got, want = "P16.2: Clean", c.Clean(k), m.clean(k)
	}
	if got != want {
		t.Fatalf("%s(%s): %v, not %v", what, k, got, want)
	}
	if !want {
		what += ", refused"
	}
	return what
}

func TestModel(t *testing.T) {
	dice := sample.Dice(161)
	seen := map[string]int{}
	for places := 1; places <= 11; places++ {
		for range 60 {
			c := made[string, int](t, places)
			m := &model{places: places}
			for range 200 {
				seen[lookDrawn(t, &dice, c, m)]++
				lookKeys(t, c, m.keys(false), m.keys(true))
				if len(m.list) > places {
					t.Fatal("the model has more than its places")
				}
			}
			for _, e := range m.list {
				if v, ok := c.Get(e.key); v != e.value || !ok {
					t.Fatalf("P16.1: Get(%s) at the end: %d, %v, not %d", e.key, v, ok, e.value)
				}
			}
		}
	}
	for _, what := range []string{"P16.1: Get", "P16.1: Put", "P16.2: Drop", "P16.2: Pin", "P16.2: Unpin", "P16.2: Clean"} {
		if seen[what] < 1000 || seen[what+", refused"] < 1000 {
			t.Errorf("%s: done %d times, refused %d times", what, seen[what], seen[what+", refused"])
		}
	}
}
