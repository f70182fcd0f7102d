package audit

import (
	"bytes"
	"reflect"
	"slices"
	"strings"
	"testing"

	"lectern/api"
	"lectern/base"
	"lectern/drum"
	"lectern/edit"
	"lectern/rig"
	. "lectern/sample"
	"lectern/sheet"
	"lectern/tree"
	"lectern/vault"
)

// opened is the base on a drum.
func opened(t *testing.T, d *drum.Drum, frames int) *base.Base {
	t.Helper()
	b, e := base.Open(d, frames)
	rig.Look(t, "base's Open", e, api.OK)
	return b
}

// begun is a base on a new drum with documents, names and texts by turns, in the transaction that put them.
func begun(t *testing.T, words ...string) (*drum.Drum, *base.Base) {
	t.Helper()
	d := rig.NewDrum(t, 4000)
	b := opened(t, d, 200)
	rig.Look(t, "Begin", b.Begin(), api.OK)
	puts(t, b, words...)
	return d, b
}

func puts(t *testing.T, b *base.Base, words ...string) {
	t.Helper()
	for i := 0; i+1 < len(words); i += 2 {
		_, e := b.Put(words[i], []byte(words[i+1]))
		rig.Look(t, "Put", e, api.OK)
	}
}

// again commits a transaction, and begins the next one.
func again(t *testing.T, b *base.Base) {
	t.Helper()
	rig.Look(t, "Commit", b.Commit(), api.OK)
	rig.Look(t, "Begin", b.Begin(), api.OK)
}

// same says whether two reports, or sights, are the same, nil and empty lists alike.
func same[T any](a, b T, lists func(x *T) []*[]int) bool {
	for _, x := range []*T{&a, &b} {
		for _, l := range lists(x) {
			if len(*l) == 0 {
				*l = nil
			}
		}
	}
	return reflect.DeepEqual(a, b)
}

func sameReport(a, b Report) bool {
	return same(a, b, func(r *Report) []*[]int { return []*[]int{&r.Lost} })
}

func lookRun(t *testing.T, b *base.Base, want Report) {
	t.Helper()
	if r, e := Run(b); !sameReport(r, want) || e != api.OK {
		t.Fatalf("P22.1: Run: %+v, %d, not %+v", r, e, want)
	}
}

func lookNoRun(t *testing.T, b *base.Base, want api.Errno) {
	t.Helper()
	if r, e := Run(b); !sameReport(r, Report{}) || e != want {
		t.Fatalf("P22.1: Run: %+v, %d, not %d", r, e, want)
	}
}

// pagesOfBase is how many pages a base lives in.
func pagesOfBase(t *testing.T, b *base.Base) int {
	t.Helper()
	l, e := b.Pages()
	rig.Look(t, "Pages", e, api.OK)
	return len(l)
}

// TestP1Nil: a nil base, one that comes of no Open, and a nil drum.
func TestP1Nil(t *testing.T) {
	lookNoRun(t, nil, api.ErrNil)
	lookNoSight(t, nil, api.ErrNil)
	Run(&base.Base{})
	Look(&drum.Drum{})
}

// TestExample is that of the chapter.
func TestExample(t *testing.T) {
	_, b := begun(t, "d", "<a><b/></a>")
	lookRun(t, b, Report{Docs: 1, Nodes: 3, Pages: 3})
}

// TestP22_1: documents and nodes are counted, in a transaction as far as it came; nothing changes.
func TestP22_1(t *testing.T) {
	_, b := begun(t)
	lookRun(t, b, Report{Pages: 3})
	puts(t, b, "a", "<!--c--><x y='1'>t<z/></x><?i w?>", "b", "<x/>")
	lookRun(t, b, Report{Docs: 2, Nodes: 8, Pages: 3})
	again(t, b)
	puts(t, b, "c", "<x>"+strings.Repeat("<y/>t", 500)+"</x>")
	lookRun(t, b, Report{Docs: 3, Nodes: 8 + 1002, Pages: pagesOfBase(t, b)})
	rig.Look(t, "Edit", b.Edit("b", edit.Edit{Op: edit.Insert, At: []int{0, 0}, Node: Elem("w", Text("t"))}), api.OK)
	lookRun(t, b, Report{Docs: 3, Nodes: 10 + 1002, Pages: pagesOfBase(t, b)})
	rig.Look(t, "Drop", b.Drop("a"), api.OK)
	lookRun(t, b, Report{Docs: 2, Nodes: 4 + 1002, Pages: pagesOfBase(t, b)})
	if !b.Busy() {
		t.Error("P22: Run ends the transaction")
	}
	rig.Look(t, "Abort", b.Abort(), api.OK)
	lookRun(t, b, Report{Docs: 2, Nodes: 8, Pages: 3})
	if b.Busy() {
		t.Error("P22: Run begins a transaction")
	}
}

// TestP22_1Many: as many documents as there may be, and the names in all their length.
func TestP22_1Many(t *testing.T) {
	b := opened(t, rig.NewDrum(t, api.MaxSectors), 1024)
	for i := range api.MaxDocs {
		if i%50 == 0 {
			rig.Look(t, "Begin", b.Begin(), api.OK)
		}
		puts(t, b, strings.Repeat("n", api.MaxName-3)+string(rune('a'+i/100))+string(rune('a'+i/10%10))+string(rune('a'+i%10)), "<x>t</x>")
		if i%50 == 49 {
			rig.Look(t, "Commit", b.Commit(), api.OK)
		}
	}
	lookRun(t, b, Report{Docs: api.MaxDocs, Nodes: 3 * api.MaxDocs, Pages: pagesOfBase(t, b)})
}

// TestP22_1Lost: pages that somebody else takes in the base's vault.
func TestP22_1Lost(t *testing.T) {
	d, b := begun(t, "a", "<x><y/></x>")
	v, _ := b.Shelf()
	var taken []int
	for range 5 {
		n, e := v.Alloc()
		rig.Look(t, "Alloc", e, api.OK)
		taken = append(taken, n)
	}
	puts(t, b, "b", "<x>"+strings.Repeat("<y/>t", 100)+"</x>")
	rig.Look(t, "Free", v.Free(taken[1]), api.OK)
	want := Report{Docs: 2, Nodes: 3 + 202, Pages: pagesOfBase(t, b), Lost: slices.Delete(taken, 1, 2)}
	lookRun(t, b, want)
	r, _ := Run(b)
	clear(r.Lost[:cap(r.Lost)])
	lookRun(t, b, want)
	again(t, b)
	lookRun(t, b, want)
	rig.Look(t, "Crash", d.Crash(nil), api.OK)
	b = opened(t, d, 200)
	lookRun(t, b, want)
	rig.Look(t, "Begin", b.Begin(), api.OK)
	v, _ = b.Shelf()
	rig.Look(t, "Free", v.Free(want.Lost[0]), api.OK)
	want.Lost = want.Lost[1:]
	lookRun(t, b, want)
	rig.Look(t, "Drop", b.Drop("b"), api.OK)
	lookRun(t, b, Report{Docs: 1, Nodes: 3, Pages: pagesOfBase(t, b), Lost: want.Lost})
}

// turned puts other bytes in the place of some, in all pages of a vault; both are as long.
func turned(t *testing.T, v *vault.Vault, from, to string) {
	t.Helper()
	count := 0
	for _, n := range v.Taken() {
		p, e := v.Get(n)
		rig.Look(t, "vault's Get", e, api.OK)
		q := bytes.ReplaceAll(p, []byte(from), []byte(to))
		if !bytes.Equal(p, q) {
			count++
			rig.Look(t, "vault's Put", v.Put(n, q), api.OK)
		}
	}
	if count == 0 {
		t.Fatalf("%s stands in no page", from)
	}
}

// TestP22_1Fault: documents that aren't right: the first one by its name is told, and all are counted.
func TestP22_1Fault(t *testing.T) {
	_, b := begun(t, "c", "<x>TTT</x>", "a", "<x>t</x>", "b", "<x><y z='UUU'/></x>", "d", "<x><!--VVV--></x>", "é", "<WWW/>")
	v, _ := b.Shelf()
	want := Report{Docs: 5, Nodes: 3 + 3 + 3 + 3 + 2, Pages: pagesOfBase(t, b)}
	lookRun(t, b, want)
	for _, l := range []struct{ from, to, fault string }{
		{"WWW", "W W", "é"},      // no name
		{"VVV", "V--", "d"},      // ErrText
		{"TTT", "T\x01T", "c"},   // ErrChar
		{"UUU", "\xffUU", "b"},   // not UTF-8
		{"\x00\x00UU", "", "b"},  // stays
		{"\xffUU", "UUU", "c"},   // right again
		{"T\x01T", "TTT", "d"},   //
		{"V--", "V-V", "é"},      //
		{"W W", "W:W", "é"},      // no name, either
		{"W:W", "W-W", ""},       //
		{"V-V", "\r\r\r", "d"},   // would be read as something else
		{"\r\r\r", "]]>", ""},    //
		{"TTT", "\r\n\r", ""},    // is written by references
		{"\r\n\r", "\u2028", ""}, //
	} {
		if l.to != "" {
			turned(t, v, l.from, l.to)
		}
		want.Fault = l.fault
		lookRun(t, b, want)
	}
}

// TestP22_1Right: what a document, its Export and its labels are to be.
func TestP22_1Right(t *testing.T) {
	d := Doc(Elem("a", Elem("b"), Text("t")))
	text, labels := "<a><b></b>t</a>\n", [][]int{{}, {1}, {1, 1}, {1, 3}}
	for _, x := range []struct {
		p    paper
		want bool
	}{
		{paper{d, []byte(text), labels}, true},
		{paper{d, []byte("<a><b/>t</a>"), [][]int{nil, {-5}, {-5, 0, 1}, {-5, 3}}}, true},
		{paper{}, false},
		{paper{tree: d}, false},
		{paper{d, nil, labels}, false},
		{paper{d, []byte(text[:len(text)-2]), labels}, false},
		{paper{d, []byte("<a><b></b>u</a>"), labels}, false},
		{paper{d, []byte("<a>t<b></b></a>"), labels}, false},
		{paper{d, []byte("<a><b></b></a>"), labels}, false},
		{paper{d, []byte("<a xmlns='u'><b></b>t</a>"), labels}, false},
		{paper{d, []byte(text), nil}, false},
		{paper{d, []byte(text), labels[:3]}, false},
		{paper{d, []byte(text), append(slices.Clone(labels), []int{1, 5})}, false},
		{paper{d, []byte(text), [][]int{{}, {1}, {1, 3}, {1, 1}}}, false},
		{paper{d, []byte(text), [][]int{{1}, {}, {1, 1}, {1, 3}}}, false},
		{paper{d, []byte(text), [][]int{{}, {1}, {1, 1}, {1, 1}}}, false},
		{paper{d, []byte(text), [][]int{{}, {}, {1}, {1, 1}}}, false},
		{paper{Doc(Elem("a", Text("t"), Text("u"))), []byte("<a>tu</a>"), labels}, false},
	} {
		if got := x.p.isRight(); got != x.want {
			t.Errorf("P22.1: %+v is right: %v", x.p, got)
		}
	}
}

// TestP22_1Errors: what a base can't answer ends Run.
func TestP22_1Errors(t *testing.T) {
	d, b := begun(t, "a", "<x>"+strings.Repeat("<y/>t", 90)+"</x>", "b", "<x>"+strings.Repeat("<y/>", 90)+"</x>")
	rig.Look(t, "Commit", b.Commit(), api.OK)
	rig.Look(t, "Checkpoint", b.Checkpoint(), api.OK)
	plan, e := sheet.Draft(d.Sectors())
	rig.Look(t, "Draft", e, api.OK)
	pages, e := b.Pages()
	rig.Look(t, "Pages", e, api.OK)
	for _, n := range pages[3:] { // the first ones are roots: of these Open is refused
		c := d.Clone()
		rig.Look(t, "Write", c.Write(plan.Base+8*n+n%8, []byte("noise")), api.OK)
		lookNoRun(t, opened(t, c, 200), api.ErrSum)
	}
	_, s := b.Shelf()
	doc, e := b.Number("b")
	rig.Look(t, "Number", e, api.OK)
	rig.Look(t, "Begin", b.Begin(), api.OK)
	_, e = s.Drop(doc)
	rig.Look(t, "shelf's Drop", e, api.OK)
	lookNoRun(t, b, api.ErrForm)
}

// TestP22_1Long: a document that is right, but too long to be written, as no base lets it come.
func TestP22_1Long(t *testing.T) {
	row := "<y>" + strings.Repeat("TUVW", 2000) + "</y>"
	_, b := begun(t, "a", "<x>"+row+row+row+"</x>")
	v, _ := b.Shelf()
	turned(t, v, "TUVW", "<<<<")
	d, e := b.Tree("a")
	rig.Look(t, "Tree", e, api.OK)
	rig.Look(t, "tree's Check", tree.Check(d), api.OK)
	lookNoRun(t, b, api.ErrLong)
}

// TestP22_1Down: the power goes while Run reads: it answers all, or nothing beside ErrDown.
func TestP22_1Down(t *testing.T) {
	d, b := begun(t, "a", "<x>"+strings.Repeat("<y/>t", 40)+"</x>", "b", "<x>"+strings.Repeat("<y/>", 60)+"</x>")
	rig.Look(t, "Commit", b.Commit(), api.OK)
	rig.Look(t, "Checkpoint", b.Checkpoint(), api.OK)
	want := Report{Docs: 2, Nodes: 82 + 62, Pages: pagesOfBase(t, b)}
	downs := 0
	for fuse := 0; ; fuse++ {
		c := d.Clone()
		b := opened(t, c, 8)
		rig.Look(t, "Fuse", c.Fuse(fuse), api.OK)
		if _, e := Run(b); e == api.OK {
			rig.Look(t, "Fuse", c.Fuse(1<<40), api.OK)
			lookRun(t, b, want)
			break
		}
		lookNoRun(t, b, api.ErrDown)
		rig.Look(t, "Crash", c.Crash(nil), api.OK)
		lookNoRun(t, b, api.ErrDown)
		downs++
	}
	if downs < 50 {
		t.Errorf("%d times the power went", downs)
	}
}
