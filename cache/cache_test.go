package cache

import (
	"math"
	"slices"
	"strconv"
	"testing"

	"lectern/api"
)

// made is a new cache.
func made[K comparable, V any](t *testing.T, places int) *Cache[K, V] {
	t.Helper()
	c, e := New[K, V](places)
	if c == nil || e != api.OK {
		t.Fatalf("P16.1: New(%d): %v, %d", places, c, e)
	}
	return c
}

func lookPut[K comparable, V any](t *testing.T, c *Cache[K, V], k K, v V, dirty bool, want api.Errno) {
	t.Helper()
	if e := c.Put(k, v, dirty); e != want {
		t.Errorf("P16.1: Put(%v, %v, %v): %d, not %d", k, v, dirty, e, want)
	}
}

func lookGet[K, V comparable](t *testing.T, c *Cache[K, V], k K, want V) {
	t.Helper()
	if v, ok := c.Get(k); v != want || !ok {
		t.Errorf("P16.1: Get(%v): %v, %v, not %v", k, v, ok, want)
	}
}

func lookNoGet[K, V comparable](t *testing.T, c *Cache[K, V], k K) {
	t.Helper()
	var nothing V
	if v, ok := c.Get(k); v != nothing || ok {
		t.Errorf("P16.1: Get(%v): %v, %v", k, v, ok)
	}
}

// lookKeys looks which entries there are, in order, and which of them are dirty.
func lookKeys[K comparable, V any](t *testing.T, c *Cache[K, V], all, dirty []K) {
	t.Helper()
	if !slices.Equal(c.Keys(), all) || !slices.Equal(c.Dirty(), dirty) || c.Len() != len(all) {
		t.Fatalf("P16.3: Keys: %v, Dirty: %v, Len: %d, not %v, %v", c.Keys(), c.Dirty(), c.Len(), all, dirty)
	}
}

// look looks what a call that may be refused answered.
func look(t *testing.T, what string, got, want bool) {
	t.Helper()
	if got != want {
		t.Errorf("%s: %v, not %v", what, got, want)
	}
}

// filled is a cache with as many places as keys, put one after the other: the values are 0, 1 and so on.
func filled(t *testing.T, keys ...string) *Cache[string, int] {
	t.Helper()
	c := made[string, int](t, len(keys))
	for i, k := range keys {
		lookPut(t, c, k, i, false, api.OK)
	}
	return c
}

func TestExamples(t *testing.T) {
	c := filled(t, "a", "b")
	lookGet(t, c, "a", 0)
	lookPut(t, c, "c", 2, false, api.OK)
	lookKeys(t, c, []string{"a", "c"}, nil)
	lookNoGet(t, c, "b")

	c = made[string, int](t, 2)
	lookPut(t, c, "a", 0, true, api.OK)
	lookPut(t, c, "b", 1, false, api.OK)
	look(t, "Pin", c.Pin("b"), true)
	lookPut(t, c, "c", 2, false, api.ErrFull)
	lookKeys(t, c, []string{"a", "b"}, []string{"a"})
}

func TestP16_1New(t *testing.T) {
	for _, n := range []int{0, -1, math.MinInt, 65537, 65538, 131072, 1 << 32, 1<<32 + 1, math.MaxInt} {
		if c, e := New[string, int](n); c != nil || e != api.ErrArg {
			t.Errorf("P16.1: New(%d): %v, %d", n, c, e)
		}
	}
	for _, n := range []int{1, 2, 65535, 65536} {
		c := made[string, int](t, n)
		lookKeys(t, c, nil, nil)
		lookNoGet(t, c, "")
		lookNoGet(t, c, "a")
	}
}

// TestP16_1Places: a cache holds as many entries as it has places, not one more and not one less.
func TestP16_1Places(t *testing.T) {
	for _, places := range []int{1, 2, 3, 10, 65536} {
		c := made[int, int](t, places)
		for k := range places {
			lookPut(t, c, k, -k, true, api.OK)
			if c.Len() != k+1 {
				t.Fatalf("P16.3: Len: %d, not %d", c.Len(), k+1)
			}
		}
		lookPut(t, c, places, 1, false, api.ErrFull)
		lookPut(t, c, -1, 1, true, api.ErrFull)
		lookNoGet(t, c, places)
		all := c.Keys()
		for k := range places {
			if all[k] != k {
				t.Fatalf("P16.3: Keys: %d at %d", all[k], k)
			}
		}
		look(t, "Clean", c.Clean(places/2), true)
		lookPut(t, c, places, 1, false, api.OK)
		lookNoGet(t, c, places/2)
		lookGet(t, c, places, 1)
		if c.Len() != places {
			t.Errorf("P16.3: Len: %d, not %d", c.Len(), places)
		}
	}
}

// TestP16_1Used: Get and Put use an entry; what was used longest ago goes first.
func TestP16_1Used(t *testing.T) {
	c := filled(t, "a", "b", "c", "d")
	lookKeys(t, c, []string{"a", "b", "c", "d"}, nil)
	lookGet(t, c, "b", 1)
	lookKeys(t, c, []string{"a", "c", "d", "b"}, nil)
	lookGet(t, c, "b", 1)
	lookGet(t, c, "a", 0)
	lookKeys(t, c, []string{"c", "d", "b", "a"}, nil)
	lookPut(t, c, "d", 30, false, api.OK)
	lookKeys(t, c, []string{"c", "b", "a", "d"}, nil)
	lookNoGet(t, c, "x")
	lookKeys(t, c, []string{"c", "b", "a", "d"}, nil)
	lookPut(t, c, "e", 4, false, api.OK)
	lookKeys(t, c, []string{"b", "a", "d", "e"}, nil)
	lookPut(t, c, "f", 5, false, api.OK)
	lookPut(t, c, "g", 6, false, api.OK)
	lookKeys(t, c, []string{"d", "e", "f", "g"}, nil)
	for k, want := range map[string]int{"d": 30, "e": 4, "f": 5, "g": 6} {
		lookGet(t, c, k, want)
	}
	for _, k := range []string{"a", "b", "c"} {
		lookNoGet(t, c, k)
	}
	// What is gone may come again, as a new entry.
	lookPut(t, c, "c", 7, false, api.OK)
	lookGet(t, c, "c", 7)
}

// TestP16_1Dirty: an entry gets dirty by a Put and stays it, whatever is put behind; Clean alone undoes it.
func TestP16_1Dirty(t *testing.T) {
	c := filled(t, "a", "b", "c")
	lookPut(t, c, "a", 10, true, api.OK)
	lookKeys(t, c, []string{"b", "c", "a"}, []string{"a"})
	lookPut(t, c, "a", 11, false, api.OK)
	lookGet(t, c, "a", 11)
	lookKeys(t, c, []string{"b", "c", "a"}, []string{"a"})
	lookPut(t, c, "b", 12, true, api.OK)
	lookKeys(t, c, []string{"c", "a", "b"}, []string{"a", "b"})
	look(t, "P16.2: Clean", c.Clean("a"), true)
	lookKeys(t, c, []string{"c", "a", "b"}, []string{"b"})
	look(t, "P16.2: Clean again", c.Clean("a"), false)
	look(t, "P16.2: Clean of a clean one", c.Clean("c"), false)
	look(t, "P16.2: Clean of none", c.Clean("x"), false)
	lookGet(t, c, "a", 11)
	// An entry that comes in the place of a dirty one that was dropped is clean; so is one whose key had a dirty entry.
	look(t, "P16.2: Drop", c.Drop("b"), true)
	lookPut(t, c, "b", 13, false, api.OK)
	lookKeys(t, c, []string{"c", "a", "b"}, nil)
}

// TestP16_1Full: dirty and pinned entries stay, wherever in the order they stand; the first of the others goes.
func TestP16_1Full(t *testing.T) {
	keys := []string{"a", "b", "c", "d"}
	for v := range 1 << 8 {
		c := filled(t, keys...)
		var dirty []string
		gone := -1
		for i := range keys {
			switch v >> (2 * i) & 3 {
			case 1:
				look(t, "Pin", c.Pin(keys[i]), true)
			case 2, 3:
				// So none is used behind another one: the order stays.
				c.find(keys[i]).dirty = true
				dirty = append(dirty, keys[i])
			default:
				if gone < 0 {
					gone = i
				}
			}
			if v>>(2*i)&3 == 3 {
				look(t, "Pin", c.Pin(keys[i]), true)
			}
		}
		if gone < 0 {
			lookPut(t, c, "x", 9, true, api.ErrFull)
			lookKeys(t, c, keys, dirty)
			lookNoGet(t, c, "x")
			// An entry that is there already needs no place.
			lookPut(t, c, "b", 8, false, api.OK)
			lookGet(t, c, "b", 8)
			lookKeys(t, c, []string{"a", "c", "d", "b"}, c.Dirty())
			continue
		}
		lookPut(t, c, "x", 9, false, api.OK)
		left := append(slices.Delete(slices.Clone(keys), gone, gone+1), "x")
		lookKeys(t, c, left, dirty)
		lookNoGet(t, c, keys[gone])
		for _, k := range left[:3] {
			lookGet(t, c, k, slices.Index(keys, k))
		}
	}
}

func TestP16_2Drop(t *testing.T) {
	c := filled(t, "a", "b", "c")
	lookPut(t, c, "b", 1, true, api.OK)
	look(t, "P16.2: Drop of none", c.Drop("x"), false)
	look(t, "P16.2: Drop of a dirty one", c.Drop("b"), true)
	lookKeys(t, c, []string{"a", "c"}, nil)
	look(t, "P16.2: Drop again", c.Drop("b"), false)
	lookNoGet(t, c, "b")
	look(t, "Pin", c.Pin("a"), true)
	look(t, "P16.2: Drop of a pinned one", c.Drop("a"), false)
	lookGet(t, c, "a", 0)
	look(t, "Unpin", c.Unpin("a"), true)
	look(t, "P16.2: Drop of one that was pinned", c.Drop("a"), true)
	look(t, "P16.2: Drop", c.Drop("c"), true)
	lookKeys(t, c, nil, nil)
	// Their places are there again.
	for i, k := range []string{"d", "e", "f"} {
		lookPut(t, c, k, i, true, api.OK)
	}
	lookPut(t, c, "g", 3, true, api.ErrFull)
	look(t, "P16.2: Drop", c.Drop("e"), true)
	lookPut(t, c, "g", 3, true, api.OK)
	lookKeys(t, c, []string{"d", "f", "g"}, []string{"d", "f", "g"})
}

// TestP16_2Pin: an entry is pinned as often as it was pinned and not unpinned.
func TestP16_2Pin(t *testing.T) {
	c := filled(t, "a", "b")
	look(t, "P16.2: Unpin of one that isn't pinned", c.Unpin("a"), false)
	look(t, "P16.2: Pin of none", c.Pin("x"), false)
	look(t, "P16.2: Unpin of none", c.Unpin("x"), false)
	for range 3 {
		look(t, "P16.2: Pin", c.Pin("a"), true)
	}
	look(t, "P16.2: Pin", c.Pin("b"), true)
	for range 2 {
		look(t, "P16.2: Unpin", c.Unpin("a"), true)
		look(t, "P16.2: Drop of a pinned one", c.Drop("a"), false)
		lookPut(t, c, "c", 2, false, api.ErrFull)
	}
	// A Put doesn't unpin.
	lookPut(t, c, "a", 10, false, api.OK)
	look(t, "P16.2: Drop of a pinned one", c.Drop("a"), false)
	lookPut(t, c, "c", 2, false, api.ErrFull)
	look(t, "P16.2: Unpin", c.Unpin("a"), true)
	look(t, "P16.2: Unpin of one that isn't pinned any more", c.Unpin("a"), false)
	lookPut(t, c, "c", 2, false, api.OK)
	lookKeys(t, c, []string{"b", "c"}, nil)
	lookPut(t, c, "a", 11, false, api.OK)
	look(t, "P16.2: Unpin of a new one", c.Unpin("a"), false)
	lookKeys(t, c, []string{"b", "a"}, nil)
}

// TestP16_2Order: none of Drop, Pin, Unpin, Clean, Keys, Dirty and Len uses an entry.
func TestP16_2Order(t *testing.T) {
	keys := []string{"a", "b", "c", "d"}
	for _, k := range keys {
		c := made[string, int](t, 4)
		for _, l := range keys {
			lookPut(t, c, l, 0, true, api.OK)
		}
		look(t, "P16.2: Pin", c.Pin(k), true)
		lookKeys(t, c, keys, keys)
		look(t, "P16.2: Drop of a pinned one", c.Drop(k), false)
		lookKeys(t, c, keys, keys)
		look(t, "P16.2: Unpin", c.Unpin(k), true)
		lookKeys(t, c, keys, keys)
		look(t, "P16.2: Unpin", c.Unpin(k), false)
		look(t, "P16.2: Clean", c.Clean(k), true)
		left := slices.DeleteFunc(slices.Clone(keys), func(l string) bool { return l == k })
		lookKeys(t, c, keys, left)
		look(t, "P16.2: Clean", c.Clean(k), false)
		lookKeys(t, c, keys, left)
		look(t, "P16.2: Drop", c.Drop(k), true)
		lookKeys(t, c, left, left)
		lookPut(t, c, "x", 0, true, api.OK)
		lookKeys(t, c, append(left, "x"), append(left, "x"))
	}
}

// TestP16_3Memory: lists are new memory, spare room too.
func TestP16_3Memory(t *testing.T) {
	c := made[string, int](t, 5)
	for _, k := range []string{"a", "b", "c", "d", "e"} {
		lookPut(t, c, k, 0, true, api.OK)
	}
	want := []string{"a", "b", "c", "d", "e"}
	for range 3 {
		all, dirty := c.Keys(), c.Dirty()
		for i := range all[:cap(all)] {
			all[:cap(all)][i] = "spoilt"
		}
		if !slices.Equal(dirty, want) {
			t.Errorf("P16.3: Keys and Dirty share memory: %v", dirty)
		}
		for i := range dirty[:cap(dirty)] {
			dirty[:cap(dirty)][i] = "spoilt"
		}
		lookKeys(t, c, want, want)
	}
}

func TestNil(t *testing.T) {
	var c *Cache[string, int]
	for _, k := range []string{"", "a"} {
		lookPut(t, c, k, 1, false, api.ErrNil)
		lookPut(t, c, k, 1, true, api.ErrNil)
		lookNoGet(t, c, k)
		look(t, "nil: Drop", c.Drop(k), false)
		look(t, "nil: Pin", c.Pin(k), false)
		look(t, "nil: Unpin", c.Unpin(k), false)
		look(t, "nil: Clean", c.Clean(k), false)
		lookKeys(t, c, nil, nil)
	}
	var odd *Cache[any, int]
	lookPut(t, odd, any([]int{1}), 1, false, api.ErrNil)
	look(t, "nil: Drop", odd.Drop([]int{1}), false)
}

// TestP1Zero: nothing is promised of a cache that isn't New's, but that no call of it panics, or goes on for ever.
func TestP1Zero(t *testing.T) {
	c := new(Cache[string, int])
	right := filled(t, "a", "b")
	copied := *right
	lookPut(t, right, "c", 2, false, api.OK)
	right.Drop("b")
	for _, d := range []*Cache[string, int]{c, &copied, right, &copied} {
		for _, k := range []string{"a", "b", "c", "d"} {
			d.Put(k, 1, false)
			d.Get(k)
			d.Pin(k)
			d.Unpin(k)
			d.Clean(k)
			d.Drop(k)
			d.Put(k, 2, true)
			d.Keys()
			d.Dirty()
			d.Len()
		}
		for _, k := range []string{"a", "b", "c", "d"} {
			d.Drop(k)
		}
	}
}

type spot struct {
	name string
	at   [2]int
}

// TestKinds: keys and values may be of any kinds.
func TestKinds(t *testing.T) {
	c := made[spot, []byte](t, 2)
	for i, s := range []string{"a", "b", "c"} {
		lookPut(t, c, spot{s, [2]int{i, 1}}, []byte(s), false, api.OK)
	}
	if b, ok := c.Get(spot{"b", [2]int{1, 1}}); string(b) != "b" || !ok {
		t.Errorf("P16.1: Get: %q, %v", b, ok)
	}
	if b, ok := c.Get(spot{"b", [2]int{1, 2}}); b != nil || ok {
		t.Errorf("P16.1: Get of another key: %q, %v", b, ok)
	}
	if _, ok := c.Get(spot{"a", [2]int{0, 1}}); ok {
		t.Error("P16.1: what was used longest ago is there")
	}
	f := made[*int, func() int](t, 1)
	n := 5
	lookPut(t, f, &n, func() int { return n }, false, api.OK)
	if v, ok := f.Get(&n); !ok || v() != 5 {
		t.Error("P16.1: Get of a function")
	}
	if v, ok := f.Get(new(int)); ok || v != nil {
		t.Error("P16.1: Get of another pointer")
	}
	a := made[any, string](t, 3)
	lookPut(t, a, any(1), "int", false, api.OK)
	lookPut(t, a, any("1"), "text", false, api.OK)
	lookPut(t, a, any(nil), "nil", false, api.OK)
	lookGet(t, a, any(1), "int")
	lookGet(t, a, any("1"), "text")
	lookGet(t, a, any(nil), "nil")
	lookNoGet(t, a, any(int8(1)))
	lookNoGet(t, a, any([]int{1}))
}

// lookLost looks at a cache that gets keys which no key is equal to, not even they: each is a new entry, which none finds, and which goes when it is its turn.
func lookLost[K comparable](t *testing.T, lost []K, right K) {
	t.Helper()
	c := made[K, int](t, 3)
	for i := range 50 {
		k := lost[i%len(lost)]
		lookPut(t, c, k, 1+i, false, api.OK)
		if c.Len() != min(i+1, 3) || len(c.Keys()) != c.Len() || len(c.Dirty()) != 0 {
			t.Fatalf("P16.1: Len: %d, %d keys behind %d Puts", c.Len(), len(c.Keys()), i+1)
		}
		lookNoGet(t, c, k)
		for what, ok := range map[string]bool{"Drop": c.Drop(k), "Pin": c.Pin(k), "Unpin": c.Unpin(k), "Clean": c.Clean(k)} {
			look(t, what, ok, false)
		}
	}
	if len(c.entries) != 0 {
		t.Errorf("P16.1: %d entries stand in the map", len(c.entries))
	}
	lookPut(t, c, right, 7, false, api.OK)
	lookPut(t, c, lost[0], 8, true, api.OK)
	lookPut(t, c, lost[0], 9, true, api.OK)
	lookGet(t, c, right, 7)
	if len(c.Dirty()) != 2 || c.Len() != 3 {
		t.Errorf("P16.3: %d are dirty, of %d", len(c.Dirty()), c.Len())
	}
	lookPut(t, c, lost[0], 10, true, api.OK)
	lookNoGet(t, c, right)
	lookPut(t, c, right, 7, false, api.ErrFull)
	lookPut(t, c, lost[0], 7, false, api.ErrFull)
}

func TestLostKeys(t *testing.T) {
	nan := math.NaN()
	lookLost(t, []float64{nan, -nan, math.Float64frombits(0x7ff8000000000002)}, 1.5)
	lookLost(t, []complex128{complex(nan, 0), complex(0, nan)}, 1i)
	lookLost(t, [][2]float64{{0, nan}, {nan, 0}}, [2]float64{0, 0})
	lookLost(t, []any{nan, []int{1}, map[string]int{}, func() {}, [1]any{[]int{}}, struct{ a any }{[]byte("x")}}, any("x"))
	lookLost(t, [][2]any{{1, []int{1}}, {nan, []int{1}}, {[]int{1}, nan}}, [2]any{1, 2})
	c := made[float64, int](t, 2)
	lookPut(t, c, 0, 1, false, api.OK)
	lookPut(t, c, math.Copysign(0, -1), 2, false, api.OK)
	lookGet(t, c, 0, 2)
	lookKeys(t, c, []float64{0}, nil)
}

// TestLong: a cache that much goes through holds no more than its places.
func TestLong(t *testing.T) {
	c := made[string, int](t, 7)
	for i := range 20000 {
		lookPut(t, c, strconv.Itoa(i), i, false, api.OK)
	}
	if c.Len() != 7 || len(c.entries) != 7 {
		t.Errorf("P16.1: %d entries, %d in the map", c.Len(), len(c.entries))
	}
	lookKeys(t, c, []string{"19993", "19994", "19995", "19996", "19997", "19998", "19999"}, nil)
}
