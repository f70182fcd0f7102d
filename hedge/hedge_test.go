package hedge

import (
	"bytes"
	"fmt"
	"maps"
	"math"
	"slices"
	"strings"
	"testing"

	"lectern/api"
	"lectern/drum"
	. "lectern/rig"
	"lectern/sample"
	"lectern/vault"
)

// lookRefused looks that all methods answer an error, and zero values beside it, of keys and numbers that are right.
func lookRefused(t *testing.T, h *Hedge, want api.Errno) {
	t.Helper()
	lookNoGet(t, h, "k", want)
	lookNoPut(t, h, "k", "v", want)
	lookNoDelete(t, h, "k", want)
	lookNoFrom(t, h, "k", 1, want)
	if l, e := h.Pages(); len(l) != 0 || e != want {
		t.Fatalf("Pages: %v, %d, not %d", l, e, want)
	}
	Look(t, "Drop", h.Drop(), want)
}

func lookNoGet(t *testing.T, h *Hedge, k string, want api.Errno) {
	t.Helper()
	if value, ok, e := h.Get([]byte(k)); len(value) != 0 || ok || e != want {
		t.Fatalf("Get(%.20q): %.20q, %v, %d, not %d", k, value, ok, e, want)
	}
}

func lookNoPut(t *testing.T, h *Hedge, k, value string, want api.Errno) {
	t.Helper()
	if e := h.Put([]byte(k), []byte(value)); e != want {
		t.Fatalf("Put(%.20q, %d bytes): %d, not %d", k, len(value), e, want)
	}
}

func lookNoDelete(t *testing.T, h *Hedge, k string, want api.Errno) {
	t.Helper()
	if ok, e := h.Delete([]byte(k)); ok || e != want {
		t.Fatalf("Delete(%.20q): %v, %d, not %d", k, ok, e, want)
	}
}

func lookNoFrom(t *testing.T, h *Hedge, k string, n int, want api.Errno) {
	t.Helper()
	if l, e := h.From([]byte(k), n); len(l) != 0 || e != want {
		t.Fatalf("From(%.20q, %d): %q, %d, not %d", k, n, l, e, want)
	}
}

// lookDelete looks what Delete answers.
func lookDelete(t *testing.T, h *Hedge, k string, want bool) {
	t.Helper()
	if ok, e := h.Delete([]byte(k)); ok != want || e != api.OK {
		t.Fatalf("P18.2: Delete(%q): %v, %d, not %v", k, ok, e, want)
	}
}

// lookNoAt looks that there is no hedge with a root.
func lookNoAt(t *testing.T, v *vault.Vault, root int, want api.Errno) {
	t.Helper()
	if h, e := At(v, root); h != nil || e != want {
		t.Fatalf("P18.1: At(%d): %v, %d, not %d", root, h, e, want)
	}
}

// at is the hedge with a root.
func at(t *testing.T, v *vault.Vault, root int) *Hedge {
	t.Helper()
	h, e := At(v, root)
	if h == nil || e != api.OK || h.Root() != root {
		t.Fatalf("P18.1: At(%d): %v, %d", root, h, e)
	}
	return h
}

// filled puts many pairs into a hedge.
func filled(t *testing.T, h *Hedge, count int) pairs {
	t.Helper()
	m := pairs{}
	dice := sample.Dice(count)
	for range count {
		s := style(dice.Under(5))
		k, value := s.key(&dice), s.value(&dice)
		put(t, h, k, value)
		m[k] = value
	}
	return m
}

// TestP1Nil: a nil hedge, one that comes of no Make, and one of a nil vault.
func TestP1Nil(t *testing.T) {
	var h *Hedge
	lookRefused(t, h, api.ErrNil)
	if n := h.Root(); n != 0 {
		t.Errorf("P18.1: Root of a nil hedge: %d", n)
	}
	long, much := strings.Repeat("k", 129), strings.Repeat("v", 70001)
	for _, h := range []*Hedge{nil, {}} {
		for _, k := range []string{"", "k", long} {
			h.Get([]byte(k))
			h.Put([]byte(k), []byte(much))
			h.Delete([]byte(k))
			for _, n := range []int{0, 1, -1, math.MaxInt, math.MinInt} {
				h.From([]byte(k), n)
			}
		}
		h.Pages()
		h.Drop()
		h.Root()
	}
	for _, k := range []string{"", long} {
		lookNoGet(t, h, k, api.ErrNil)
		lookNoPut(t, h, k, "", api.ErrNil)
		lookNoPut(t, h, k, much, api.ErrNil)
		lookNoDelete(t, h, k, api.ErrNil)
		lookNoFrom(t, h, k, -1, api.ErrNil)
	}
	if h, e := Make(nil); h != nil || e != api.ErrNil {
		t.Errorf("P18.1: Make of a nil vault: %v, %d", h, e)
	}
	for _, n := range []int{0, 1, -1, math.MaxInt} {
		lookNoAt(t, nil, n, api.ErrNil)
		lookNoAt(t, &vault.Vault{}, n, api.ErrArg)
	}
	if h, e := Make(&vault.Vault{}); h != nil || e == api.OK {
		t.Errorf("P18.1: Make of a vault that wasn't opened: %v, %d", h, e)
	}
}

// TestErrors: what is asked of arguments is asked ahead of what the vault says: there is no transaction, and later no power.
func TestErrors(t *testing.T) {
	d := NewDrum(t, 400)
	v := Opened(t, d, 16)
	Look(t, "Begin", v.Begin(), api.OK)
	h := made(t, v)
	put(t, h, "k", "v")
	Look(t, "Commit", v.Commit(), api.OK)
	long, longest := strings.Repeat("k", 129), strings.Repeat("k", 128)
	much := strings.Repeat("v", 70001)
	for _, on := range []bool{true, false} {
		lookNoGet(t, h, "", api.ErrArg)
		lookNoGet(t, h, long, api.ErrLong)
		lookNoPut(t, h, "", "v", api.ErrArg)
		lookNoPut(t, h, "", much, api.ErrArg)
		lookNoPut(t, h, long, "v", api.ErrLong)
		lookNoPut(t, h, long, much, api.ErrLong)
		lookNoPut(t, h, "k", much, api.ErrLong)
		lookNoPut(t, h, longest, much, api.ErrLong)
		lookNoDelete(t, h, "", api.ErrArg)
		lookNoDelete(t, h, long, api.ErrLong)
		lookNoFrom(t, h, long, 1, api.ErrLong)
		lookNoFrom(t, h, long, -1, api.ErrLong)
		lookNoFrom(t, h, long, 0, api.ErrLong)
		lookNoFrom(t, h, "", -1, api.ErrArg)
		lookNoFrom(t, h, longest, -1, api.ErrArg)
		lookNoFrom(t, h, "k", math.MinInt, api.ErrArg)
		if !on {
			break
		}
		// What changes nothing needs no transaction.
		lookGet(t, h, pairs{"k": "v"}, "k")
		lookGet(t, h, pairs{"k": "v"}, longest)
		lookFrom(t, h, pairs{"k": "v"}, "", math.MaxInt)
		lookFrom(t, h, pairs{"k": "v"}, "", 0)
		put(t, h, "k", "v")
		lookDelete(t, h, "kk", false)
		lookPages(t, h, pairs{})
		// What changes something does.
		lookNoPut(t, h, "k", "w", api.ErrState)
		lookNoPut(t, h, "k", "", api.ErrState)
		lookNoPut(t, h, "l", "", api.ErrState)
		lookNoPut(t, h, "l", much[1:], api.ErrState)
		lookNoPut(t, h, longest, strings.Repeat("v", 96), api.ErrState)
		lookNoDelete(t, h, "k", api.ErrState)
		Look(t, "Drop", h.Drop(), api.ErrState)
		if h, e := Make(v); h != nil || e != api.ErrState {
			t.Errorf("P18.1: Make without a transaction: %v, %d", h, e)
		}
		lookWhole(t, h, pairs{"k": "v"})
		Look(t, "Fuse", d.Fuse(0), api.OK)
		Look(t, "Checkpoint", v.Checkpoint(), api.ErrDown)
	}
	lookRefused(t, h, api.ErrDown)
	for _, root := range []int{h.Root(), 0, -1, 9} {
		lookNoAt(t, v, root, api.ErrDown)
	}
	if h, e := Make(v); h != nil || e != api.ErrDown {
		t.Errorf("P18.1: Make without power: %v, %d", h, e)
	}
}

// TestP18_1Make: the root is the page that Alloc answers.
func TestP18_1Make(t *testing.T) {
	v := Begun(t, 400, 32)
	for i := range 6 {
		if n, e := v.Alloc(); n != i+1 || e != api.OK {
			t.Fatalf("vault's Alloc: %d, %d", n, e)
		}
	}
	for _, n := range []int{5, 2, 3} {
		Look(t, "vault's Free", v.Free(n), api.OK)
	}
	var hedges []*Hedge
	for _, want := range []int{2, 3, 5, 7, 8} {
		h := made(t, v)
		if h.Root() != want {
			t.Errorf("P18.1: the root is %d, not %d", h.Root(), want)
		}
		if l, e := h.Pages(); !slices.Equal(l, []int{want}) || e != api.OK {
			t.Errorf("P18.1: Pages of a new hedge: %v, %d", l, e)
		}
		lookFrom(t, h, pairs{}, "", math.MaxInt)
		lookGet(t, h, pairs{}, "k")
		lookDelete(t, h, "k", false)
		hedges = append(hedges, h)
	}
	if l := v.Taken(); !slices.Equal(l, []int{1, 2, 3, 4, 5, 6, 7, 8}) {
		t.Errorf("P18.1: taken are %v", l)
	}
	put(t, hedges[1], "k", "v")
	for i, h := range hedges {
		m := pairs{}
		if i == 1 {
			m["k"] = "v"
		}
		lookWhole(t, h, m)
	}
}

// TestP18_1At: hedges of one root are one; the root stays while a hedge grows and shrinks.
func TestP18_1At(t *testing.T) {
	v := Begun(t, 16384, 1024)
	other := made(t, v)
	h := made(t, v)
	same := at(t, v, h.Root())
	m := filled(t, h, 300)
	lookWhole(t, same, m)
	if h.Root() != 2 || same.Root() != 2 || other.Root() != 1 {
		t.Errorf("P18.1: the roots are %d, %d, %d", h.Root(), same.Root(), other.Root())
	}
	for i, k := range slices.Sorted(maps.Keys(m)) {
		lookDelete(t, []*Hedge{h, same}[i%2], k, true)
		delete(m, k)
		if i%10 == 0 {
			lookWhole(t, []*Hedge{h, same}[i/10%2], m)
		}
	}
	if l, e := same.Pages(); !slices.Equal(l, []int{2}) || e != api.OK {
		t.Errorf("P18.3: Pages of a hedge from which all is gone: %v, %d", l, e)
	}
	lookWhole(t, other, pairs{})
	for _, root := range []int{3, 0, -1, 4, 1534, 1535, 1 << 20, math.MaxInt, math.MinInt} {
		lookNoAt(t, v, root, api.ErrArg)
	}
	Look(t, "Drop", h.Drop(), api.OK)
	lookNoAt(t, v, 2, api.ErrArg)
	at(t, v, 1)
}

// TestP18_2Example: the chapter's example.
func TestP18_2Example(t *testing.T) {
	h := made(t, Begun(t, 100, 8))
	put(t, h, "b", "1")
	put(t, h, "a", "2")
	put(t, h, "ab", "3")
	m := pairs{"a": "2", "ab": "3", "b": "1"}
	lookFrom(t, h, m, "", 9)
	if l, _ := h.From(nil, 9); !samePairs(l, []Pair{{[]byte("a"), []byte("2")}, {[]byte("ab"), []byte("3")}, {[]byte("b"), []byte("1")}}) {
		t.Errorf("P18.2: From(none, 9): %q", l)
	}
	if l, _ := h.From([]byte("aa"), 1); !samePairs(l, []Pair{{[]byte("ab"), []byte("3")}}) {
		t.Errorf("P18.2: From(aa, 1): %q", l)
	}
	lookDelete(t, h, "ab", true)
	lookDelete(t, h, "ab", false)
}

// TestP18_2Order: keys stand in the order of their bytes, the shorter one first where one begins with the other; all that From may be told.
func TestP18_2Order(t *testing.T) {
	h := made(t, Begun(t, 16384, 1024))
	m := pairs{}
	dice := sample.Dice(182)
	keys := []string{strings.Repeat("\xff", 128), strings.Repeat("\x00", 128)}
	for _, a := range []string{"\x00", "\x01", "a", "\x7f", "\x80", "\xff"} {
		keys = append(keys, a, a+"\x00", a+"\x00\x00", a+"\xff", a+"a", a+"b", a+strings.Repeat("z", 127))
	}
	for len(keys) > 0 {
		i := dice.Under(len(keys))
		put(t, h, keys[i], keys[i][:len(keys[i])/2])
		m[keys[i]] = keys[i][:len(keys[i])/2]
		keys = slices.Delete(keys, i, i+1)
	}
	lookWhole(t, h, m)
	for _, k := range append(slices.Sorted(maps.Keys(m)), "", "b", "\x00a\x00", "zz", "\xff\xff") {
		for _, n := range []int{0, 1, 2, 3, 17, len(m), len(m) + 1, math.MaxInt} {
			lookFrom(t, h, m, k, n)
			if len(k) < 128 {
				lookFrom(t, h, m, k+"\x00", n)
			}
		}
		if k != "" {
			lookGet(t, h, m, k)
			lookGet(t, h, m, k[1:]+"!")
		}
	}
}

// TestP18_2Values: values of all sizes at which something changes, each in the place of each other one; the pages of the old one are not lost.
func TestP18_2Values(t *testing.T) {
	sizes := []int{0, 1, 9, 95, 96, 97, 98, 255, 256, 491, 492, 493, 496, 983, 984, 985, 5000, 69999, 70000}
	for _, k := range []string{"k", strings.Repeat("k", 128)} {
		v := Begun(t, 16384, 1024)
		h := made(t, v)
		m := pairs{"j": "a", "l": "b"}
		put(t, h, "j", "a")
		put(t, h, "l", "b")
		for i, first := range sizes {
			for j, second := range sizes {
				for _, size := range []int{first, second} {
					m[k] = strings.Repeat(string(rune('a'+i)), size/2) + strings.Repeat(string(rune('A'+j)), size-size/2)
					put(t, h, k, m[k])
					lookGet(t, h, m, k)
					l := lookWhole(t, h, m)
					LookOwned(t, v, l)
					if len(l) != 1+longPages(size) {
						t.Fatalf("P18.3: %d pages beside a value of %d bytes", len(l), size)
					}
				}
			}
			lookDelete(t, h, k, true)
			delete(m, k)
			LookOwned(t, v, lookWhole(t, h, m))
		}
	}
}

// TestP18_2Memory: what is handed in stays, spare room too, and isn't kept; what is answered shares nothing.
func TestP18_2Memory(t *testing.T) {
	h := made(t, Begun(t, 16384, 1024))
	m := filled(t, h, 60)
	spare := func(s string) []byte { return append(make([]byte, 0, len(s)+40), s...) }
	for _, value := range []string{"", "v", strings.Repeat("v", 96), strings.Repeat("v", 97), strings.Repeat("v", 3000)} {
		k, b := spare("key"), spare(value)
		calls := []func(){
			func() { h.Put(k, b) }, func() { h.Get(k) }, func() { h.From(k, 3) }, func() { h.Delete(k) }, func() { h.Put(k, b) },
		}
		for i, call := range calls {
			call()
			if string(k[:43]) != "key"+string(make([]byte, 40)) || string(b[:cap(b)][:len(value)+40]) != value+string(make([]byte, 40)) {
				t.Fatalf("P18.2: call %d changes what is handed in", i)
			}
		}
		m["key"] = value
		clear(k[:cap(k)])
		clear(b[:cap(b)])
		lookWhole(t, h, m)
	}
	whole := func(l []byte, mark byte) {
		for i := range l[:cap(l)] {
			l[:cap(l)][i] = mark
		}
	}
	rows := func() [][]byte {
		var l [][]byte
		for range 2 {
			all, _ := h.From(nil, math.MaxInt)
			for _, x := range all {
				l = append(l, x.Key, x.Value)
				value, _, _ := h.Get(x.Key)
				l = append(l, value)
			}
		}
		return l
	}
	l := rows()
	for i, x := range l {
		whole(x, byte(i))
	}
	for i, x := range l {
		if !bytes.Equal(x[:cap(x)], bytes.Repeat([]byte{byte(i)}, cap(x))) {
			t.Fatalf("P18.2: answers share memory")
		}
	}
	lookWhole(t, h, m)
	p, _ := h.Pages()
	q, _ := h.Pages()
	clear(p[:cap(p)])
	if r, _ := h.Pages(); !slices.Equal(q, r) {
		t.Errorf("P18.3: answers of Pages share memory")
	}
}

// TestP18_3NoChange: a call that changes no pairs changes no page, and a transaction of such calls has no group.
func TestP18_3NoChange(t *testing.T) {
	d := NewDrum(t, 16384)
	v := Opened(t, d, 1024)
	Look(t, "Begin", v.Begin(), api.OK)
	h := made(t, v)
	m := filled(t, h, 150)
	Again(t, v)
	groups, loose := v.Groups(), d.Loose()
	dice := sample.Dice(183)
	for _, k := range slices.Sorted(maps.Keys(m)) {
		put(t, h, k, m[k])
		lookGet(t, h, m, k)
		absent := style(dice.Under(5)).key(&dice)
		if _, ok := m[absent]; !ok {
			lookDelete(t, h, absent, false)
		}
		lookFrom(t, h, m, absent, 3)
		lookPages(t, h, m)
		at(t, v, h.Root())
		lookNoPut(t, h, k, strings.Repeat("v", 70001), api.ErrLong)
	}
	Again(t, v)
	if v.Groups() != groups || d.Loose() != loose {
		t.Errorf("P18.3: calls that change no pairs change pages")
	}
	put(t, h, "k", "new")
	Look(t, "Commit", v.Commit(), api.OK)
	if v.Groups() != groups+1 {
		t.Errorf("P18.3: a call that changes pairs changes no page")
	}
}

// changes is how many pages differ, but for those that were or are a long value's and nothing else.
func changes(before, after map[int]string, long map[int]int) int {
	sum := 0
	for n := range 2048 {
		if before[n] != after[n] && long[n] < 2 {
			sum++
		}
	}
	return sum
}

// longOf counts, of each page, whether it is a long value's, or isn't taken.
func longOf(t *testing.T, h *Hedge, into map[int]int) {
	t.Helper()
	nodes := map[int]int{}
	Look(t, "walk", h.walk(nil, func(n int, _ node) (bool, api.Errno) { nodes[n]++; return true, api.OK }), api.OK)
	for n := range 2048 {
		into[n] += 1 - nodes[n]
	}
}

// TestP18_3Changes: keys that are alike up to their ends make a hedge with many levels; each call in a transaction of its own, with room for 40 changed pages, the map among them.
func TestP18_3Changes(t *testing.T) {
	for _, s := range []style{1, 2, 3, 4} {
		d := NewDrum(t, 16384)
		v := Opened(t, d, 41)
		Look(t, "Begin", v.Begin(), api.OK)
		h := made(t, v)
		Again(t, v)
		m := pairs{}
		dice := sample.Dice(184 + s)
		most, levels := 0, 0
		var keys []string
		for i := range 2600 {
			if i == 1300 {
				levels = lookShape(t, h)
				keys = slices.Sorted(maps.Keys(m))
			}
			before, long := map[int]string(nil), map[int]int{}
			if i%50 == 0 {
				before = Image(t, v)
				longOf(t, h, long)
			}
			if n := len(keys); n == 0 {
				k, value := s.key(&dice), s.value(&dice)
				m[k] = value[:min(len(value), 400)]
				put(t, h, k, m[k])
			} else {
				at := dice.Under(n)
				lookDelete(t, h, keys[at], true)
				delete(m, keys[at])
				keys[at], keys = keys[n-1], keys[:n-1]
			}
			if i%50 == 0 {
				longOf(t, h, long)
				most = max(most, changes(before, Image(t, v), long))
				LookOwned(t, v, lookWhole(t, h, m))
			}
			Again(t, v)
		}
		LookOwned(t, v, lookWhole(t, h, m))
		if most > 40 || most < 2 || s == 1 && levels < 6 {
			t.Errorf("P18.3: %d pages changed by one call, in %d levels", most, levels)
		}
	}
}

// TestP18_3Least: the smallest pairs, that come and go in order: so few in a page as are kept.
func TestP18_3Least(t *testing.T) {
	ways := []func(i int) int{func(i int) int { return i }, func(i int) int { return 2999 - i }, func(i int) int { return i * 7 % 3000 }}
	for i, come := range ways {
		for j, gone := range ways {
			v := Begun(t, 16384, 1024)
			h := made(t, v)
			m := pairs{}
			key := func(n int) string { return string([]byte{byte(n >> 8), byte(n)}) }
			for n := range 3000 {
				put(t, h, key(come(n)), "")
				m[key(come(n))] = ""
				if n%499 == 0 {
					LookOwned(t, v, lookWhole(t, h, m))
				}
			}
			if l := lookPages(t, h, m); len(l) > 3000*5/200 {
				t.Errorf("P18.3: %d pages of 3000 pairs, come in way %d", len(l), i)
			}
			for n := range 3000 {
				lookDelete(t, h, key(gone(n)), true)
				delete(m, key(gone(n)))
				if n%97 == 0 {
					LookOwned(t, v, lookWhole(t, h, m))
				}
			}
			if l := lookWhole(t, h, m); len(l) != 1 {
				t.Errorf("P18.3: %d pages of no pairs, gone in way %d", len(l), j)
			}
		}
	}
}

// TestInOrder: keys that come one behind the other, alone or between others, fill three quarters of their pages; they fill a half, if each comes ahead of the other.
func TestInOrder(t *testing.T) {
	rising := func(n int) int { return n }
	falling := func(n int) int { return 999 - n }
	for i, c := range []struct {
		others, most int
		place        func(n int) int
	}{{0, 45, rising}, {100, 45, rising}, {0, 70, falling}} {
		v := Begun(t, 16384, 1024)
		h := made(t, v)
		m := pairs{}
		puts := func(k string) {
			t.Helper()
			put(t, h, k, "")
			m[k] = ""
		}
		for n := range c.others {
			puts(fmt.Sprintf("%c%011d", "ac"[n%2], n))
		}
		before := len(lookPages(t, h, m))
		for n := range 1000 {
			puts(fmt.Sprintf("b%011d", c.place(n)))
		}
		// Each takes 14 bytes, so there are 57 leaves, if all of them are halves.
		if l := lookWhole(t, h, m); len(l)-before > c.most {
			t.Errorf("case %d: %d pages more, not %d, where 1000 keys come between %d others", i, len(l)-before, c.most, c.others)
		}
	}
}

// TestP18_3Drop: all pages of a hedge are freed, and no others.
func TestP18_3Drop(t *testing.T) {
	for _, count := range []int{0, 1, 40, 300} {
		v := Begun(t, 16384, 1024)
		a, h, b := made(t, v), made(t, v), made(t, v)
		first := filled(t, a, 30)
		filled(t, h, count)
		last := filled(t, b, 31)
		Again(t, v)
		Look(t, "P18.3: Drop", h.Drop(), api.OK)
		LookOwned(t, v, lookWhole(t, a, first), lookWhole(t, b, last))
		lookRefused(t, h, api.ErrArg)
		Look(t, "Abort", v.Abort(), api.OK)
		Look(t, "Begin", v.Begin(), api.OK)
		Look(t, "P18.3: Drop", at(t, v, h.Root()).Drop(), api.OK)
		Again(t, v)
		LookOwned(t, v, lookWhole(t, a, first), lookWhole(t, b, last))
		Look(t, "P18.3: Drop", a.Drop(), api.OK)
		Look(t, "P18.3: Drop", b.Drop(), api.OK)
		LookOwned(t, v)
	}
}

// TestOneRather: where a page has room for a leaf with the one behind it, but not with the one ahead, there is one page less.
func TestOneRather(t *testing.T) {
	v := Begun(t, 800, 64)
	h := made(t, v)
	m := pairs{}
	for _, k := range []string{"a", "b", "c", "d", "e", "f", "g", "a1", "a2"} { // 99 bytes each, and more
		m[k] = strings.Repeat("v", 96)
		put(t, h, k, m[k])
	}
	l, e := h.path([]byte("c"))
	Look(t, "path", e, api.OK)
	if len(l[0].node.cells) != 3 || l[0].at != 1 {
		t.Fatalf("%d leaves, the key stands in the one %d", len(l[0].node.cells), l[0].at)
	}
	for i, k := range []string{"g", "c"} {
		lookDelete(t, h, k, true)
		delete(m, k)
		if l := lookWhole(t, h, m); len(l) != 4-i {
			t.Errorf("%d pages, not %d", len(l), 4-i)
		}
	}
}

// TestNeeds: From doesn't read what it doesn't need.
func TestNeeds(t *testing.T) {
	v := Begun(t, 16384, 1024)
	h := made(t, v)
	m := pairs{}
	key := func(n int) string { return string([]byte{byte(n >> 8), byte(n)}) }
	for n := range 3000 {
		m[key(n)] = "v"
		put(t, h, key(n), "v")
	}
	lookPages(t, h, m)
	spoilt := func(k string) (first, last int) {
		l, e := h.path([]byte(k))
		Look(t, "path", e, api.OK)
		Look(t, "vault's Put", v.Put(l[len(l)-1].page, nil), api.OK)
		number := func(c cell) int { return int(c.key[0])<<8 + int(c.key[1]) }
		return number(l.leaf().cells[0]), number(l.leaf().last())
	}
	_, last := spoilt(key(0))
	first, _ := spoilt(key(2999))
	from := last + 1
	lookFrom(t, h, m, key(from), first-from)
	lookNoFrom(t, h, key(from), first-from+1, api.ErrForm)
	lookNoFrom(t, h, key(last), 1, api.ErrForm)
	lookNoFrom(t, h, "", 1, api.ErrForm)
}

// TestP18_4: what a transaction did is gone with its Abort, and there with its Commit.
func TestP18_4(t *testing.T) {
	d := NewDrum(t, 16384)
	v := Opened(t, d, 1024)
	Look(t, "Begin", v.Begin(), api.OK)
	h := made(t, v)
	Look(t, "Abort", v.Abort(), api.OK)
	lookNoAt(t, v, 1, api.ErrArg)
	lookNoGet(t, h, "k", api.ErrArg)

	Look(t, "Begin", v.Begin(), api.OK)
	h = made(t, v)
	m := filled(t, h, 200)
	Look(t, "Commit", v.Commit(), api.OK)
	for range 3 {
		before := Image(t, v)
		Look(t, "Begin", v.Begin(), api.OK)
		for i, k := range slices.Sorted(maps.Keys(m)) {
			if i%3 > 0 {
				lookDelete(t, h, k, true)
			} else {
				put(t, h, k, m[k]+"x")
			}
		}
		filled(t, h, 77)
		Look(t, "Abort", v.Abort(), api.OK)
		if !maps.Equal(before, Image(t, v)) {
			t.Fatalf("P18.4: Abort leaves something")
		}
		lookWhole(t, h, m)
		Look(t, "Crash", d.Crash(nil), api.OK)
		v = Opened(t, d, 1024)
		h = at(t, v, 1)
		LookOwned(t, v, lookWhole(t, h, m))
	}
}

// TestP1Same: what is answered and written depends on nothing else.
func TestP1Same(t *testing.T) {
	var images []map[int]string
	for range 2 {
		v := Begun(t, 16384, 1024)
		h := made(t, v)
		m := filled(t, h, 200)
		for i, k := range slices.Sorted(maps.Keys(m)) {
			if i%2 == 0 {
				lookDelete(t, h, k, true)
			}
		}
		filled(t, h, 100)
		images = append(images, Image(t, v))
	}
	if !maps.Equal(images[0], images[1]) {
		t.Errorf("P1: what is told twice is written in two ways")
	}
}

// full is a hedge in a vault that has no page left.
func full(t *testing.T, sectors int, s style) (*drum.Drum, *vault.Vault, *Hedge, pairs) {
	t.Helper()
	d := NewDrum(t, sectors)
	v := Opened(t, d, 1024)
	Look(t, "Begin", v.Begin(), api.OK)
	h := made(t, v)
	Look(t, "Commit", v.Commit(), api.OK)
	m := pairs{}
	dice := sample.Dice(185 + s)
	for {
		Look(t, "Begin", v.Begin(), api.OK)
		k, value := s.key(&dice), s.value(&dice)
		switch e := h.Put([]byte(k), []byte(value)); e {
		case api.OK:
			Look(t, "Commit", v.Commit(), api.OK)
			m[k] = value
		case api.ErrFull:
			Look(t, "Abort", v.Abort(), api.OK)
			return d, v, h, m
		default:
			t.Fatalf("P18.2: Put: %d", e)
		}
	}
}

// TestP6Full: ErrFull comes where all pages are taken; what was committed is there, can be changed and taken out, and in its place there is room again.
func TestP6Full(t *testing.T) {
	for _, s := range []style{1, 2, 3, 4} {
		d, v, h, m := full(t, 700, s)
		LookOwned(t, v, lookWhole(t, h, m))
		keys := slices.Sorted(maps.Keys(m))
		long := slices.MaxFunc(keys, func(a, b string) int { return len(m[a]) - len(m[b]) })
		if len(m[long]) <= 96 {
			t.Fatalf("no value is long")
		}
		Look(t, "Begin", v.Begin(), api.OK)
		for v.Pages()-1 > len(v.Taken()) {
			if _, e := v.Alloc(); e != api.OK {
				t.Fatalf("vault's Alloc: %d", e)
			}
		}
		if h, e := Make(v); h != nil || e != api.ErrFull {
			t.Errorf("P6: Make in a full vault: %v, %d", h, e)
		}
		put(t, h, long, strings.Repeat("y", len(m[long]))) // the pages of the old value serve again
		most := strings.Repeat("x", longPages(len(m[long]))*492)
		put(t, h, long, most)
		lookNoPut(t, h, long, most+"x", api.ErrFull)
		Look(t, "Abort", v.Abort(), api.OK)
		Look(t, "Begin", v.Begin(), api.OK)
		for _, k := range keys {
			lookDelete(t, h, k, true)
		}
		if l := v.Taken(); len(l) != 1 {
			t.Errorf("P6: taken are %v", l)
		}
		Look(t, "Crash", d.Crash(nil), api.OK)
		v = Opened(t, d, 64)
		LookOwned(t, v, lookWhole(t, at(t, v, 1), m))
	}
}

// TestP6Limit: ErrLimit comes of the vault's bound alone: the root and the map are two changed pages, halves two more.
func TestP6Limit(t *testing.T) {
	for frames, want := range map[int]api.Errno{4: api.ErrLimit, 5: api.OK} {
		v := Opened(t, NewDrum(t, 800), frames)
		Look(t, "Begin", v.Begin(), api.OK)
		h := made(t, v)
		Again(t, v)
		m := pairs{}
		for i := range 6 { // 82 bytes each
			m[string(rune('a'+i))] = strings.Repeat("v", 79)
			put(t, h, string(rune('a'+i)), strings.Repeat("v", 79))
		}
		Again(t, v)
		Look(t, "P6: Put", h.Put([]byte("g"), []byte("v")), want)
		if want == api.OK {
			m["g"] = "v"
			Again(t, v)
			LookOwned(t, v, lookWhole(t, h, m))
			continue
		}
		Look(t, "Abort", v.Abort(), api.OK)
		LookOwned(t, v, lookWhole(t, h, m))
		Look(t, "Begin", v.Begin(), api.OK)
		lookNoPut(t, h, "a", strings.Repeat("v", 984), api.ErrLimit)
		Look(t, "Abort", v.Abort(), api.OK)
		Look(t, "Begin", v.Begin(), api.OK)
		put(t, h, "a", strings.Repeat("v", 492))
		m["a"] = strings.Repeat("v", 492)
		LookOwned(t, v, lookWhole(t, h, m))
	}
}
