package shelf

import (
	"maps"
	"math"
	"slices"
	"strings"
	"testing"

	"lectern/api"
	"lectern/drum"
	"lectern/edit"
	. "lectern/rig"
	. "lectern/sample"
	"lectern/tree"
	"lectern/vault"
)

// stands says whether these documents are what stands in a vault's shelf, and nothing else does; of nil there is no shelf.
func stands(t *testing.T, v *vault.Vault, m books) bool {
	t.Helper()
	s, e := At(v, 1, 2)
	if m == nil {
		return e == api.ErrArg && len(v.Taken()) == 0
	}
	if e != api.OK {
		return false
	}
	for doc, x := range m {
		d, ok, e := s.Get(doc)
		l, f := s.Labels(doc)
		if !ok || e != api.OK || f != api.OK || !tree.Equal(d, x.whole()) || !slices.EqualFunc(l, x.labels(), slices.Equal[[]int]) {
			return false
		}
	}
	docs, e := s.Docs()
	return e == api.OK && slices.Equal(docs, slices.Sorted(maps.Keys(m))) && slices.Equal(lookPages(t, s), v.Taken())
}

// work is a transaction of such documents.
type work = Transaction[*vault.Vault, books]

// act is what is done in a shelf, and told to the documents that should stand. It answers ErrSum, if something else is answered than these say.
type act func(s *Shelf, m books) api.Errno

// acts is a transaction of some acts.
func acts(l ...act) work {
	return func(v *vault.Vault, m books) (books, api.Errno) {
		s, e := At(v, 1, 2)
		if e != api.OK {
			return nil, e
		}
		next := maps.Clone(m)
		for _, do := range l {
			if e := do(s, next); e != api.OK {
				return nil, e
			}
		}
		return next, api.OK
	}
}

// undone is a transaction that is aborted.
func undone(do work) work {
	return func(v *vault.Vault, m books) (books, api.Errno) {
		if _, e := do(v, m); e != api.OK {
			return nil, e
		}
		if e := v.Abort(); e != api.OK {
			return nil, e
		}
		return m, v.Begin()
	}
}

func puts(doc int, d api.Node) act {
	return func(s *Shelf, m books) api.Errno {
		m[doc] = planted(nil, d)
		return s.Put(doc, d)
	}
}

func drops(doc int) act {
	return func(s *Shelf, m books) api.Errno {
		ok, e := s.Drop(doc)
		_, had := m[doc]
		if ok != (had && e == api.OK) {
			return api.ErrSum
		}
		delete(m, doc)
		return e
	}
}

func edits(doc int, e edit.Edit) act {
	return func(s *Shelf, m books) api.Errno {
		x, _, f := m[doc].edited(e)
		if f != api.OK {
			return api.ErrSum
		}
		m[doc] = x
		return s.Edit(doc, e)
	}
}

// reads reads all that stands, in all ways; beside an error there is nothing.
func reads(s *Shelf, m books) api.Errno {
	l, e := s.Docs()
	if e == api.OK && !slices.Equal(l, slices.Sorted(maps.Keys(m))) || e != api.OK && len(l) > 0 {
		return api.ErrSum
	}
	for _, doc := range slices.Sorted(maps.Keys(m)) {
		d, ok, e := s.Get(doc)
		want := api.Node{}
		if e == api.OK {
			want = m[doc].whole()
		}
		if ok != (e == api.OK) || !tree.Equal(d, want) {
			return api.ErrSum
		}
		l, f := s.Labels(doc)
		if f == api.OK && !slices.EqualFunc(l, m[doc].labels(), slices.Equal[[]int]) || f != api.OK && len(l) > 0 {
			return api.ErrSum
		}
		if e != api.OK || f != api.OK {
			return api.ErrDown
		}
	}
	if l, e = s.Pages(); (len(l) > 0) != (e == api.OK) {
		return api.ErrSum
	}
	return e
}

// script is documents that come, are changed, and go.
func script() []work {
	makes := func(v *vault.Vault, _ books) (books, api.Errno) {
		_, e := Make(v)
		return books{}, e
	}
	long := With(Elem("l", Text(strings.Repeat("t", 700))), "u", "k", strings.Repeat("v", 300))
	wide := Doc(Elem("a", slices.Repeat([]api.Node{With(Elem("b"), "", "c", strings.Repeat("d", 20)), Text("e")}, 12)...))
	return []work{
		makes,
		acts(puts(1, Doc(Elem("a", Elem("b"), Text("x")))), reads),
		acts(edits(1, edit.Edit{Op: edit.Insert, At: []int{0, 1}, Node: In("u", Elem("new"))}), puts(1<<32-1, Doc(long))),
		undone(acts(puts(1, Doc(Elem("gone"))), drops(1<<32-1), puts(3, wide))),
		acts(edits(1<<32-1, edit.Edit{Op: edit.Write, At: []int{0, 0}, Text: strings.Repeat("w", 900)}), drops(5), puts(2, wide), reads),
		acts(edits(2, edit.Edit{Op: edit.Replace, At: []int{0, 3}, Node: long}), edits(2, edit.Edit{Op: edit.Delete, At: []int{0, 7}}), drops(1)),
		acts(puts(2, Doc(Comment("c"), Elem("a"))), puts(1, wide)),
		undone(acts(drops(2), drops(1))),
		acts(edits(1, edit.Edit{Op: edit.Set, At: []int{0}, Name: api.Name{URI: "u", Local: "k"}, Text: "v"}), drops(1<<32-1), reads),
	}
}

// TestP4: the power goes at each step; with few frames, so that reading does steps too.
func TestP4(t *testing.T) {
	open := func(d *drum.Drum) (*vault.Vault, api.Errno) { return vault.Open(d, 24) }
	stands := func(v *vault.Vault, m books) bool { return stands(t, v, m) }
	cuts := Script[*vault.Vault, books]{Sectors: 900, Open: open, Acts: script(), Stands: stands}.Cut(t)
	if cuts < 100 {
		t.Errorf("%d Commits were cut", cuts)
	}
}

// eight is a drum on which a shelf of eight documents stands, with an empty log.
func eight(t *testing.T) (*drum.Drum, books) {
	t.Helper()
	d := NewDrum(t, 4000)
	v := Opened(t, d, 512)
	Look(t, "Begin", v.Begin(), api.OK)
	s := made(t, v)
	m := books{}
	for doc := range 8 {
		m[doc] = put(t, s, doc, wide(20+10*doc))
	}
	Look(t, "Commit", v.Commit(), api.OK)
	Look(t, "Checkpoint", v.Checkpoint(), api.OK)
	return d, m
}

// TestP4Reading: what is read while the power goes is right, or nothing beside ErrDown.
func TestP4Reading(t *testing.T) {
	d, m := eight(t)
	downs := 0
	for fuse := 0; ; fuse += 7 {
		c := d.Clone()
		v := Opened(t, c, 4)
		Look(t, "Fuse", c.Fuse(fuse), api.OK)
		s, e := At(v, 1, 2)
		if e == api.OK {
			e = reads(s, m)
		} else if s != nil {
			t.Fatalf("P20.1: At: %v, %d", s, e)
		}
		if e == api.OK {
			break
		}
		Look(t, "reading", e, api.ErrDown)
		downs++
		if s == nil {
			continue
		}
		lookRefused(t, s, 3, api.ErrDown)
		lookNoLists(t, s, api.ErrDown)
	}
	if downs < 100 {
		t.Errorf("%d times the power went", downs)
	}
}

// TestP4Writing: the power goes while documents are changed, at each step that reading does for that.
func TestP4Writing(t *testing.T) {
	d, m := eight(t)
	for i, do := range []act{
		puts(3, wide(30)), puts(8, Doc(In("new", Elem("new")))), drops(7), edits(6, edit.Edit{Op: edit.Delete, At: []int{0, 3}}),
		edits(5, edit.Edit{Op: edit.Insert, At: []int{0, 9}, Node: In("new", Elem("new"))}), edits(5, edit.Edit{Op: edit.Replace, At: []int{0}, Node: Elem("new")}),
		edits(4, edit.Edit{Op: edit.Set, At: []int{0}, Name: api.Name{URI: "new", Local: "new"}}), func(s *Shelf, m books) api.Errno { _, e := Make(s.vault); return e },
	} {
		downs := 0
		for fuse := 0; ; fuse++ {
			c := d.Clone()
			v := Opened(t, c, 40)
			s := at(t, v, 1, 2)
			Look(t, "Begin", v.Begin(), api.OK)
			Look(t, "Fuse", c.Fuse(fuse), api.OK)
			e := do(s, maps.Clone(m))
			if e == api.OK {
				break
			}
			Look(t, "changing", e, api.ErrDown)
			downs++
			if fuse > math.MaxInt16 {
				t.Fatal("the power goes on and on")
			}
			Look(t, "Crash", c.Crash(nil), api.OK)
			if fuse%5 == 0 && !stands(t, Opened(t, c, 40), m) {
				t.Fatalf("P4: behind act %d, cut at step %d, something else stands", i, fuse)
			}
		}
		if downs < 5 && i < 7 {
			t.Errorf("act %d was cut %d times", i, downs)
		}
	}
}
