package base

import (
	"bytes"
	"fmt"
	"math"
	"slices"
	"strconv"
	"strings"
	"testing"

	"lectern/api"
	"lectern/canon"
	"lectern/drum"
	"lectern/edit"
	. "lectern/rig"
	. "lectern/sample"
	"lectern/trail"
	"lectern/tree"
)

// brief is how something is told that may be very long.
func brief(x any) string {
	s := fmt.Sprintf("%+v", x)
	return s[:min(len(s), 500)]
}

// opened is the base on a drum.
func opened(t *testing.T, d *drum.Drum, frames int) *Base {
	t.Helper()
	b, e := Open(d, frames)
	if b == nil || e != api.OK {
		t.Fatalf("P21.1: Open: %v, %d", b, e)
	}
	return b
}

// begun is a base on a new drum, in which a transaction is open.
func begun(t *testing.T, sectors, frames int) *Base {
	t.Helper()
	b := opened(t, NewDrum(t, sectors), frames)
	Look(t, "Begin", b.Begin(), api.OK)
	return b
}

// again commits a transaction, and begins the next one.
func again(t *testing.T, b *Base) {
	t.Helper()
	Look(t, "Commit", b.Commit(), api.OK)
	Look(t, "Begin", b.Begin(), api.OK)
}

// puts puts documents: names and texts by turns.
func puts(t *testing.T, b *Base, words ...string) {
	t.Helper()
	for i := 0; i+1 < len(words); i += 2 {
		lookPut(t, b, words[i], words[i+1], 0, api.OK)
	}
}

func lookPut(t *testing.T, b *Base, name, text string, place int, want api.Errno) {
	t.Helper()
	if at, e := b.Put(name, []byte(text)); at != place || e != want {
		t.Fatalf("P21.2: Put(%s, %s): %d, %d, not %d, %d", brief(name), brief(text), at, e, place, want)
	}
}

func lookExport(t *testing.T, b *Base, name, want string) {
	t.Helper()
	if l, e := b.Export(name); string(l) != want || e != api.OK {
		t.Fatalf("P21.3: Export(%s): %s, %d, not %s", name, brief(string(l)), e, brief(want))
	}
}

func lookNames(t *testing.T, b *Base, want ...string) {
	t.Helper()
	if l, e := b.Names(); !slices.Equal(l, want) || e != api.OK {
		t.Fatalf("P21.3: Names: %s, %d, not %s", brief(l), e, brief(want))
	}
}

func lookPick(t *testing.T, b *Base, name, query string, want ...string) {
	t.Helper()
	l, at, e := b.Pick(name, query)
	if shown := shows(t, l); !slices.Equal(shown, want) || at != 0 || e != api.OK {
		t.Fatalf("P21.3: Pick(%s, %s): %v, %d, %d, not %v", name, query, shown, at, e, want)
	}
}

// shows is trails as texts.
func shows(t *testing.T, l []trail.Trail) []string {
	t.Helper()
	var out []string
	for _, x := range l {
		s, e := trail.Show(x)
		Look(t, "trail's Show", e, api.OK)
		out = append(out, s)
	}
	return out
}

// lookPages looks that a base lives in all pages that are taken.
func lookPages(t *testing.T, b *Base) []int {
	t.Helper()
	l, e := b.Pages()
	Look(t, "P21.6: Pages", e, api.OK)
	v, _ := b.Shelf()
	LookOwned(t, v, l)
	if !slices.IsSorted(l) || len(l) == 0 || l[0] != 1 {
		t.Fatalf("P21.6: Pages: %v", l)
	}
	return l
}

// lookUnread looks that a document can't be read.
func lookUnread(t *testing.T, b *Base, name string, want api.Errno) {
	t.Helper()
	if d, e := b.Tree(name); e != want || !tree.Equal(d, api.Node{}) {
		t.Fatalf("Tree(%s): %s, %d, not %d", brief(name), brief(d), e, want)
	}
	if l, e := b.Export(name); len(l) > 0 || e != want {
		t.Fatalf("Export(%s): %s, %d, not %d", brief(name), brief(string(l)), e, want)
	}
	lookNoPick(t, b, name, "/a", 0, want)
}

func lookNoNumber(t *testing.T, b *Base, name string, want api.Errno) {
	t.Helper()
	if n, e := b.Number(name); n != 0 || e != want {
		t.Fatalf("Number(%s): %d, %d, not %d", brief(name), n, e, want)
	}
}

func lookNoPick(t *testing.T, b *Base, name, query string, place int, want api.Errno) {
	t.Helper()
	if l, at, e := b.Pick(name, query); len(l) > 0 || at != place || e != want {
		t.Fatalf("Pick(%s, %s): %s, %d, %d, not %d, %d", brief(name), brief(query), brief(l), at, e, place, want)
	}
}

// lookUnchanged looks that all that changes a document is refused.
func lookUnchanged(t *testing.T, b *Base, name string, want api.Errno) {
	t.Helper()
	for _, text := range []string{"<a/>", "<a>", "", strings.Repeat("x", api.MaxDoc+1)} {
		lookPut(t, b, name, text, 0, want)
	}
	lookNoEdit(t, b, name, want)
	Look(t, "Drop", b.Drop(name), want)
}

func lookNoEdit(t *testing.T, b *Base, name string, want api.Errno) {
	t.Helper()
	for _, e := range []edit.Edit{{}, {Op: edit.Write, At: []int{0, 0}, Text: "w"}, {Op: edit.Insert, At: []int{0, 0}, Node: Elem("c")}} {
		Look(t, "Edit", b.Edit(name, e), want)
	}
}

// lookNoLists looks that Names and Pages answer an error.
func lookNoLists(t *testing.T, b *Base, want api.Errno) {
	t.Helper()
	if l, e := b.Names(); len(l) > 0 || e != want {
		t.Fatalf("Names: %s, %d, not %d", brief(l), e, want)
	}
	if l, e := b.Pages(); len(l) > 0 || e != want {
		t.Fatalf("Pages: %v, %d, not %d", l, e, want)
	}
}

func lookNoOpen(t *testing.T, d *drum.Drum, frames int, want api.Errno) {
	t.Helper()
	if b, e := Open(d, frames); b != nil || e != want {
		t.Fatalf("P21.1: Open(.., %d): %v, %d, not %d", frames, b, e, want)
	}
}

// wrong is names that are none.
func wrong() []string {
	return []string{"", "1", "a b", "a:b", "-", "\xff", "a\xff", "\x00", "a\x00", strings.Repeat("a", api.MaxName+1), "�\xff", "a\n"}
}

// TestP1Nil: a nil base, and one that comes of no Open.
func TestP1Nil(t *testing.T) {
	var b *Base
	for _, name := range append(wrong(), "a") {
		lookUnchanged(t, b, name, api.ErrNil)
		lookUnread(t, b, name, api.ErrNil)
		lookNoPick(t, b, name, "no query", 0, api.ErrNil)
		lookNoNumber(t, b, name, api.ErrNil)
	}
	lookNoLists(t, b, api.ErrNil)
	for _, do := range []func() api.Errno{b.Begin, b.Commit, b.Abort, b.Checkpoint} {
		Look(t, "a nil base's call", do(), api.ErrNil)
	}
	if v, s := b.Shelf(); b.Busy() || v != nil || s != nil {
		t.Errorf("P21.6: a nil base: %v, %v, %v", b.Busy(), v, s)
	}
	b = &Base{}
	for _, do := range []func() api.Errno{b.Begin, b.Commit, b.Abort, b.Checkpoint} {
		do()
	}
	b.Busy()
	b.Shelf()
	b.Names()
	b.Pages()
	for _, name := range []string{"", "a"} {
		b.Put(name, []byte("<a/>"))
		b.Edit(name, edit.Edit{})
		b.Drop(name)
		b.Tree(name)
		b.Export(name)
		b.Pick(name, "/a")
		b.Number(name)
	}
}

// TestP21_1Errors: what Open asks of frames and drums, in that order.
func TestP21_1Errors(t *testing.T) {
	d := NewDrum(t, 256)
	for _, frames := range []int{7, 0, -1, math.MinInt, 1025, math.MaxInt} {
		lookNoOpen(t, nil, frames, api.ErrNil)
		lookNoOpen(t, d, frames, api.ErrArg)
	}
	lookNoOpen(t, nil, 8, api.ErrNil)
	for _, sectors := range []int{1, 63, 64, 255} {
		lookNoOpen(t, NewDrum(t, sectors), 8, api.ErrArg)
	}
	if d.Steps() != 0 {
		t.Errorf("P21.1: an Open that is refused does %d steps", d.Steps())
	}
	Look(t, "Fuse", d.Fuse(0), api.OK)
	lookNoOpen(t, d, 7, api.ErrArg)
	lookNoOpen(t, d, 8, api.ErrDown)
	for _, sectors := range []int{256, 257, api.MaxSectors} {
		for _, frames := range []int{8, 1024} {
			b := opened(t, NewDrum(t, sectors), frames)
			lookNames(t, b)
			lookPages(t, b)
		}
	}
}

// TestP21_1: a new drum gets a base without documents; it is there from then on.
func TestP21_1(t *testing.T) {
	d := NewDrum(t, 256)
	b := opened(t, d, 8)
	lookNames(t, b)
	if l := lookPages(t, b); !slices.Equal(l, []int{1, 2, 3}) {
		t.Errorf("a base without documents lives in %v", l)
	}
	v, s := b.Shelf()
	nodes, names := s.Roots()
	for range 3 {
		Look(t, "Crash", d.Crash(nil), api.OK)
		if taken := Opened(t, d.Clone(), 8).Taken(); !slices.Equal(taken, []int{1, 2, 3}) {
			t.Fatalf("P21.4: behind a crash these are taken: %v", taken)
		}
		b = opened(t, d, 1024)
		lookNames(t, b)
		lookPages(t, b)
		w, s := b.Shelf()
		if a, c := s.Roots(); a != nodes || c != names || w == v {
			t.Errorf("P21.1: the shelf's roots are %d and %d, not %d and %d", a, c, nodes, names)
		}
	}
}

// TestP21_1Transactions: Begin, Commit, Abort, Checkpoint and Busy are the vault's.
func TestP21_1Transactions(t *testing.T) {
	d := NewDrum(t, 400)
	b := opened(t, d, 20)
	v, _ := b.Shelf()
	for range 2 {
		if b.Busy() || v.Busy() {
			t.Fatal("P21.1: Busy without a transaction")
		}
		Look(t, "Commit", b.Commit(), api.ErrState)
		Look(t, "Abort", b.Abort(), api.ErrState)
		gen := v.Gen()
		Look(t, "Checkpoint", b.Checkpoint(), api.OK)
		if v.Gen() != gen+1 || v.Groups() != 0 {
			t.Fatalf("P21.1: behind a Checkpoint: generation %d, %d groups", v.Gen(), v.Groups())
		}
		Look(t, "Begin", b.Begin(), api.OK)
		if !b.Busy() || !v.Busy() {
			t.Fatal("P21.1: not Busy in a transaction")
		}
		Look(t, "Begin", b.Begin(), api.ErrState)
		Look(t, "Checkpoint", b.Checkpoint(), api.ErrState)
		puts(t, b, "a", "<x/>")
		Look(t, "Abort", b.Abort(), api.OK)
		lookNames(t, b)
	}
	Look(t, "Begin", b.Begin(), api.OK)
	puts(t, b, "a", "<x/>")
	Look(t, "Commit", b.Commit(), api.OK)
	lookNames(t, b, "a")
	Look(t, "Begin", b.Begin(), api.OK)
	Look(t, "Drop", b.Drop("a"), api.OK)
	lookNames(t, b)
	Look(t, "Abort", b.Abort(), api.OK)
	lookExport(t, b, "a", "<x></x>\n")
}

// stepsOf is how many steps a base's opening does on a drum, besides those of its vault's.
func stepsOf(t *testing.T, d *drum.Drum, frames int) int {
	t.Helper()
	vaults, bases := d.Clone(), d.Clone()
	Opened(t, vaults, frames)
	opened(t, bases, frames)
	return bases.Steps() - vaults.Steps()
}

// full is a drum with a base that has MaxDocs documents, whose names are as long as names may be; some are dropped, and come again.
func full(t *testing.T, name func(i int) string) *drum.Drum {
	t.Helper()
	d := NewDrum(t, api.MaxSectors)
	b := opened(t, d, 1024)
	for round := range 3 {
		for i := range api.MaxDocs {
			if i%50 == 0 {
				Look(t, "Begin", b.Begin(), api.OK)
			}
			if round != 1 {
				puts(t, b, name(i), "<x/>")
			} else if i%7 > 0 {
				Look(t, "Drop", b.Drop(name(i)), api.OK)
			}
			if i%50 == 49 {
				Look(t, "Commit", b.Commit(), api.OK)
			}
		}
	}
	return d
}

// TestP21_1Steps: opening a base is a few steps, however many names there are.
func TestP21_1Steps(t *testing.T) {
	d := NewDrum(t, 400)
	b := opened(t, d, 20)
	most := stepsOf(t, d, 8)
	Look(t, "Begin", b.Begin(), api.OK)
	puts(t, b, "a", "<x/>", "b", "<y/>")
	Look(t, "Commit", b.Commit(), api.OK)
	most = max(most, stepsOf(t, d, 8))
	for _, name := range []func(i int) string{
		func(i int) string { return strings.Repeat("n", api.MaxName-4) + strconv.Itoa(1000+i) },
		func(i int) string { return "n" + strconv.Itoa(1000+i*379%1000) + strings.Repeat("n", api.MaxName-5) },
		func(i int) string { return "n" + strconv.Itoa(i*379%1000) },
	} {
		d := full(t, name)
		b := opened(t, d.Clone(), 8)
		if l, e := b.Names(); len(l) != api.MaxDocs || e != api.OK {
			t.Fatalf("P21.3: Names: %d names, %d", len(l), e)
		}
		lookPages(t, b)
		for _, frames := range []int{8, 1024} {
			most = max(most, stepsOf(t, d, frames))
		}
	}
	if most > 150 {
		t.Errorf("P21.1: Open does %d steps besides those of vault.Open", most)
	}
}

// TestErrors: which error comes ahead of which.
func TestErrors(t *testing.T) {
	d := NewDrum(t, 1200)
	b := opened(t, d, 64)
	Look(t, "Begin", b.Begin(), api.OK)
	puts(t, b, "a", "<x><y/></x>")
	Look(t, "Commit", b.Commit(), api.OK)
	lookReads := func(state api.Errno) {
		t.Helper()
		for _, name := range wrong() {
			lookUnread(t, b, name, api.ErrName)
			lookNoPick(t, b, name, "no query", 0, api.ErrName)
			lookNoNumber(t, b, name, api.ErrName)
		}
		for _, name := range []string{"a", "none"} {
			lookNoPick(t, b, name, "", 0, api.ErrQuery)
			lookNoPick(t, b, name, "/a[0]", 3, api.ErrQuery)
			lookNoPick(t, b, name, "/a/é]", 5, api.ErrQuery)
			lookNoPick(t, b, name, strings.Repeat("/a", 21), 0, api.ErrLimit)
		}
		lookUnread(t, b, "none", state)
		lookNoNumber(t, b, "none", state)
	}
	lookReads(api.ErrNone)
	for _, name := range append(wrong(), "a", "none") {
		lookUnchanged(t, b, name, api.ErrState)
	}
	Look(t, "Begin", b.Begin(), api.OK)
	lookReads(api.ErrNone)
	for _, name := range wrong() {
		lookUnchanged(t, b, name, api.ErrName)
	}
	lookNoEdit(t, b, "none", api.ErrNone)
	Look(t, "Drop", b.Drop("none"), api.ErrNone)
	lookTexts(t, b)
	for want, e := range edits() {
		Look(t, "Edit", b.Edit("a", e), want)
	}
	if !b.Busy() {
		t.Error("what is refused ends the transaction")
	}
	lookNames(t, b, "a")
	lookExport(t, b, "a", "<x><y></y></x>\n")
	// The power goes: what needs no page is asked ahead of it.
	Look(t, "Fuse", d.Fuse(0), api.OK)
	lookPut(t, b, "b", "<x>"+strings.Repeat("<y/>", 40)+"</x>", 0, api.OK) // all pages are in the frames
	Look(t, "Commit", b.Commit(), api.ErrDown)
	Look(t, "Crash", d.Crash(nil), api.OK)
	lookReads(api.ErrDown)
	lookUnread(t, b, "a", api.ErrDown)
	lookNoLists(t, b, api.ErrDown)
	for _, do := range []func() api.Errno{b.Begin, b.Commit, b.Abort, b.Checkpoint} {
		Look(t, "a call behind ErrDown", do(), api.ErrDown)
	}
}

// edits is edits that the document of <x><y/></x> refuses, but for ErrLimit.
func edits() map[api.Errno]edit.Edit {
	var words []api.Node
	for range 10 {
		words = append(words, Text(strings.Repeat("<", 2000)), Elem("a"))
	}
	return map[api.Errno]edit.Edit{
		api.ErrArg:  {Op: 7, At: []int{0}},
		api.ErrPath: {Op: edit.Delete, At: []int{0, 1}},
		api.ErrKind: {Op: edit.Write, At: []int{0}, Text: "w"},
		api.ErrNone: {Op: edit.Drop, At: []int{0}, Name: api.Name{Local: "b"}},
		api.ErrRoot: {Op: edit.Delete, At: []int{0}},
		api.ErrText: {Op: edit.Insert, At: []int{0, 0}, Node: Text("")},
		api.ErrName: {Op: edit.Insert, At: []int{0, 0}, Node: Elem("1")},
		api.ErrDeep: {Op: edit.Insert, At: []int{0, 0}, Node: Chain(Elem("a"), 32)},
		api.ErrLong: {Op: edit.Insert, At: []int{0, 0}, Node: Elem("a", words...)},
	}
}

// lookTexts looks at texts that are refused, in a base that has a and no other document.
func lookTexts(t *testing.T, b *Base) {
	t.Helper()
	data := "<![CDATA[" + strings.Repeat("<", 6000) + "]]>" // as &lt; each they are more than MaxDoc
	for _, name := range []string{"a", "b"} {
		lookPut(t, b, name, "", 0, api.ErrRoot)
		lookPut(t, b, name, "<x>", 3, api.ErrTag)
		lookPut(t, b, name, "<!DOCTYPE x><x/>", 0, api.ErrUnsupported)
		lookPut(t, b, name, "<x/> <y/>", 5, api.ErrRoot)
		lookPut(t, b, name, "<x>\x00</x>", 3, api.ErrChar)
		lookPut(t, b, name, "<x/>\xff", 4, api.ErrUTF8)
		lookPut(t, b, name, "<x>y&z;</x>", 3, api.ErrRef)
		lookPut(t, b, name, strings.Repeat("<x>", 34), 99, api.ErrDeep)
		lookPut(t, b, name, strings.Repeat(" ", api.MaxDoc)+"<", 0, api.ErrLong)
		lookPut(t, b, name, "<x/>"+strings.Repeat(" ", api.MaxDoc-3), 0, api.ErrLong)
		lookPut(t, b, name, strings.Repeat(" ", api.MaxDoc-2)+"<x", api.MaxDoc-2, api.ErrSyntax)
		lookPut(t, b, name, "<x>"+data+"<y/>"+data+"<y/>"+data+"</x>", 0, api.ErrLong)
	}
}

// TestP21_2: documents come, take others' place, are edited, and go.
func TestP21_2(t *testing.T) {
	d := NewDrum(t, 2000)
	b := opened(t, d, 100)
	Look(t, "Begin", b.Begin(), api.OK)
	text := []byte("<p:x xmlns:p='u'><y b='2' a='1'/>t&amp;</p:x>")
	if at, e := b.Put("n", text); at != 0 || e != api.OK {
		t.Fatalf("P21.2: Put: %d, %d", at, e)
	}
	if string(text) != "<p:x xmlns:p='u'><y b='2' a='1'/>t&amp;</p:x>" {
		t.Error("Put changes what is handed in")
	}
	clear(text)
	first := "<n1:x xmlns:n1=\"u\"><y a=\"1\" b=\"2\"></y>t&amp;</n1:x>\n"
	lookExport(t, b, "n", first)
	again(t, b)
	lookExport(t, b, "n", first)
	puts(t, b, "é", "<z/>", "n", first)
	lookNames(t, b, "n", "é")
	lookExport(t, b, "n", first)
	new := Elem("new", Text("u"))
	Look(t, "Edit", b.Edit("n", edit.Edit{Op: edit.Insert, At: []int{0, 1}, Node: new}), api.OK)
	Spoil(new)
	Look(t, "Edit", b.Edit("n", edit.Edit{Op: edit.Write, At: []int{0, 2}, Text: "<"}), api.OK)
	lookExport(t, b, "n", "<n1:x xmlns:n1=\"u\"><y a=\"1\" b=\"2\"></y><new>u</new>&lt;</n1:x>\n")
	puts(t, b, "n", "<w/>")
	lookExport(t, b, "n", "<w></w>\n")
	Look(t, "Drop", b.Drop("n"), api.OK)
	lookUnread(t, b, "n", api.ErrNone)
	Look(t, "Drop", b.Drop("n"), api.ErrNone)
	lookExport(t, b, "é", "<z></z>\n")
	puts(t, b, "m", "<!--c--><v/>", "n", "<w/>")
	lookNames(t, b, "m", "n", "é")
	lookExport(t, b, "m", "<!--c-->\n<v></v>\n")
	lookExport(t, b, "n", "<w></w>\n")
	lookExport(t, b, "é", "<z></z>\n")
	lookPages(t, b)
	Look(t, "Abort", b.Abort(), api.OK)
	lookNames(t, b, "n")
	lookExport(t, b, "n", first)
	lookPages(t, b)
}

// TestP21_2Longest: the longest text and the longest name.
func TestP21_2Longest(t *testing.T) {
	b := begun(t, 4000, 200)
	name := strings.Repeat("é", api.MaxName/2)
	puts(t, b, name, "<x/>"+strings.Repeat(" ", api.MaxDoc-4))
	lookNames(t, b, name)
	lookExport(t, b, name, "<x></x>\n")
}

// TestExample is that of the chapter.
func TestExample(t *testing.T) {
	d := NewDrum(t, 400)
	b := opened(t, d, 20)
	Look(t, "Begin", b.Begin(), api.OK)
	puts(t, b, "a", "<x/>")
	Look(t, "Commit", b.Commit(), api.OK)
	Look(t, "Begin", b.Begin(), api.OK)
	puts(t, b, "a", "<y/>")
	lookExport(t, b, "a", "<y></y>\n")
	Look(t, "Crash", d.Crash(nil), api.OK)
	b = opened(t, d, 20)
	lookExport(t, b, "a", "<x></x>\n")
	Look(t, "Begin", b.Begin(), api.OK)
	lookPut(t, b, "a", "<x>", 3, api.ErrTag)
	lookPut(t, b, "1", "<x/>", 0, api.ErrName)
	lookExport(t, b, "a", "<x></x>\n")
}

// TestP21_3Names: names rise by their bytes, in a transaction too; such as begin with the letters of other keys, and such of which one begins with another.
func TestP21_3Names(t *testing.T) {
	b := begun(t, 2000, 200)
	names := []string{"r", "d", "a", "b", "dd", "c", "_", "e", "Z", "ab", "a-b", "a.b", "a1", "é", "\u4e00", "\U00010000", "\uf900", "s", "rd", "dr", "q"}
	for i, name := range names {
		puts(t, b, name, "<x/>")
		want := slices.Clone(names[:i+1])
		slices.Sort(want)
		lookNames(t, b, want...)
	}
	l, _ := b.Names()
	clear(l[:cap(l)])
	again(t, b)
	for i, name := range names {
		want := slices.Clone(names[i:])
		slices.Sort(want)
		lookNames(t, b, want...)
		Look(t, "Drop", b.Drop(name), api.OK)
	}
	lookNames(t, b)
	v, s := b.Shelf()
	if docs, e := s.Docs(); len(docs) > 0 || e != api.OK {
		t.Errorf("P21.2: behind all Drops these are left: %v", docs)
	}
	LookOwned(t, v, lookPages(t, b))
}

// TestP21_3: what is read of a document.
func TestP21_3(t *testing.T) {
	b := begun(t, 2000, 200)
	puts(t, b, "a", "<a><b x='1'/><b d='M0 0 4 0 4 4Z'>t</b><c xmlns='u'/></a>", "b", "<a><b/></a>")
	want := Doc(Elem("a", With(Elem("b"), "", "x", "1"), With(Elem("b", Text("t")), "", "d", "M0 0 4 0 4 4Z"), In("u", Elem("c"))))
	for range 2 {
		d, e := b.Tree("a")
		if e != api.OK || !tree.Equal(d, want) {
			t.Fatalf("P21.3: Tree: %s, %d", brief(d), e)
		}
		Spoil(d)
		l, e := b.Export("a")
		if text, f := canon.Write(want); !bytes.Equal(l, text) || e != api.OK || f != api.OK {
			t.Fatalf("P21.3: Export: %s, %d", l, e)
		}
		clear(l[:cap(l)])
		lookPick(t, b, "a", "/a/b", "/0/0", "/0/1")
		lookPick(t, b, "a", "//c{u}", "/0/2")
		lookPick(t, b, "a", "//b[@d~3,1]", "/0/1")
		lookPick(t, b, "a", "/a/b/@*", "/0/0/@x", "/0/1/@d")
		lookPick(t, b, "a", "//none")
		lookPick(t, b, "b", "/a/b", "/0/0")
		lookNoPick(t, b, "a", "//b[@d~3,1", 10, api.ErrQuery)
		Look(t, "Commit", b.Commit(), api.OK)
		Look(t, "Begin", b.Begin(), api.OK)
	}
	Look(t, "Edit", b.Edit("a", edit.Edit{Op: edit.Delete, At: []int{0, 0}}), api.OK)
	lookPick(t, b, "a", "/a/b", "/0/0")
	Look(t, "Abort", b.Abort(), api.OK)
	lookPick(t, b, "a", "/a/b", "/0/0", "/0/1")
}

// TestP21_6: the vault and the shelf are those in which the documents stand.
func TestP21_6(t *testing.T) {
	b := begun(t, 2000, 200)
	puts(t, b, "b", "<a><b/></a>", "a", "<c/>")
	v, s := b.Shelf()
	if w, x := b.Shelf(); w != v || x != s || !v.Busy() {
		t.Fatal("P21.6: Shelf answers others")
	}
	var numbers []int
	for _, name := range []string{"a", "b"} {
		doc, e := b.Number(name)
		Look(t, "Number", e, api.OK)
		d, ok, e := s.Get(doc)
		if want, f := b.Tree(name); !ok || e != api.OK || f != api.OK || !tree.Equal(d, want) {
			t.Fatalf("P21.6: the shelf's document %d: %s, %v, %d", doc, brief(d), ok, e)
		}
		numbers = append(numbers, doc)
	}
	slices.Sort(numbers)
	if docs, e := s.Docs(); !slices.Equal(docs, numbers) || e != api.OK {
		t.Errorf("P21.6: in the shelf stand %v, %d, not %v", docs, e, numbers)
	}
	l := lookPages(t, b)
	clear(l[:cap(l)])
	lookPages(t, b)
}
