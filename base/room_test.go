package base

import (
	"fmt"
	"slices"
	"strconv"
	"strings"
	"testing"

	"lectern/api"
	"lectern/edit"
	. "lectern/rig"
	. "lectern/sample"
)

// lookAborted looks that a base's transaction is aborted, so that these documents stand, names and what is exported of them by turns, and that another transaction finds room.
func lookAborted(t *testing.T, b *Base, words ...string) {
	t.Helper()
	look := func() {
		t.Helper()
		var names []string
		for i := 0; i+1 < len(words); i += 2 {
			names = append(names, words[i])
			lookExport(t, b, words[i], words[i+1])
		}
		lookNames(t, b, names...)
		lookPages(t, b)
	}
	if b.Busy() {
		t.Fatal("P6: behind ErrFull or ErrLimit the transaction is open")
	}
	look()
	Look(t, "Commit", b.Commit(), api.ErrState)
	Look(t, "Abort", b.Abort(), api.ErrState)
	lookUnchanged(t, b, "a", api.ErrState)
	Look(t, "Begin", b.Begin(), api.OK)
	puts(t, b, words[0], "<anew/>")
	Look(t, "Abort", b.Abort(), api.OK)
	look()
}

// TestBehindLimit: texts and edits that come to ErrLimit abort the transaction, whatever they come from.
func TestBehindLimit(t *testing.T) {
	d := NewDrum(t, 8000)
	b := opened(t, d, 900)
	Look(t, "Begin", b.Begin(), api.OK)
	puts(t, b, "a", "<x><y/></x>")
	Look(t, "Commit", b.Commit(), api.OK)
	begins := func() {
		t.Helper()
		Look(t, "Begin", b.Begin(), api.OK)
		puts(t, b, "b", "<gone/>", "a", "<x><y/>t</x>")
	}
	long := strings.Repeat("v", api.MaxValue+1)
	many := "<x>" + strings.Repeat("<y/>", api.MaxNodes)
	for _, name := range []string{"a", "b", "c"} {
		for text, place := range map[string]int{many: len(many) - 4, "<x>" + long + "</x>": 3, "<x/><!--" + long + "-->": 4, "<x y='" + long + "'/>": 0} {
			begins()
			lookPut(t, b, name, text, place, api.ErrLimit)
			lookAborted(t, b, "a", "<x><y></y></x>\n")
		}
	}
	wide := Elem("w")
	for i := range api.MaxAttrs {
		wide = With(Elem("w"), append(attributes(wide), "", "n"+strconv.Itoa(100+i), "")...)
	}
	for _, e := range []edit.Edit{
		{Op: edit.Write, At: []int{0, 1}, Text: long},
		{Op: edit.Set, At: []int{0}, Name: api.Name{Local: "n"}, Text: long},
		{Op: edit.Insert, At: []int{0, 0}, Node: Elem("z", slices.Repeat([]api.Node{Elem("y")}, api.MaxNodes)...)},
		{Op: edit.Replace, At: []int{0, 0}, Node: With(wide, append(attributes(wide), "", "z", "")...)},
	} {
		begins()
		Look(t, "Edit", b.Edit("a", e), api.ErrLimit)
		lookAborted(t, b, "a", "<x><y></y></x>\n")
	}
}

// attributes is the attributes of a node as With takes them.
func attributes(n api.Node) []string {
	var l []string
	for _, a := range n.Attrs {
		l = append(l, a.Name.URI, a.Name.Local, a.Value)
	}
	return l
}

// TestBehindLabels: kids come at one place till there is no label; what was committed ahead of that is there.
func TestBehindLabels(t *testing.T) {
	b := begun(t, api.MaxSectors, 200)
	puts(t, b, "a", "<x><y/><y/></x>")
	at := edit.Edit{Op: edit.Insert, At: []int{0, 1}, Node: Elem("z")}
	count := 0
	for ; ; count++ {
		if count%20 == 0 {
			again(t, b)
		}
		e := b.Edit("a", at)
		if e == api.ErrLimit {
			break
		}
		Look(t, "Edit", e, api.OK)
		at.At[1] += count % 2 // between the two that came last
	}
	if count < 50 {
		t.Errorf("P5: there is room for %d labels", count)
	}
	z := strings.Repeat("<z></z>", count-count%20)
	lookAborted(t, b, "a", "<x><y></y>"+z+"<y></y></x>\n")
}

// TestBehindFrames: a transaction that would change too many pages is aborted, by a Put, an Edit or a Drop.
func TestBehindFrames(t *testing.T) {
	d := NewDrum(t, 8000)
	wide := "<x>" + strings.Repeat("<y/>t", 500) + "</x>"
	told := "<x>" + strings.Repeat("<y></y>t", 500) + "</x>\n"
	b := opened(t, d, 900)
	Look(t, "Begin", b.Begin(), api.OK)
	puts(t, b, "a", wide, "b", wide)
	Look(t, "Commit", b.Commit(), api.OK)
	b = opened(t, d, 20)
	look := func() {
		t.Helper()
		if b.Busy() {
			t.Fatal("P6: behind ErrLimit the transaction is open")
		}
		lookExport(t, b, "a", told)
		lookExport(t, b, "b", told)
		lookNames(t, b, "a", "b")
		lookPages(t, b)
		lookUnchanged(t, b, "a", api.ErrState)
	}
	// Of this the pages that are freed don't count; so it takes others that are changed to have no room.
	writes := func(i int) api.Errno {
		return b.Edit("b", edit.Edit{Op: edit.Write, At: []int{0, 1 + 50*i}, Text: "w"})
	}
	e := api.OK
	for most := 1; e == api.OK; most++ {
		Look(t, "Begin", b.Begin(), api.OK)
		for i := range most {
			Look(t, "Edit", writes(i), api.OK)
		}
		if e = b.Drop("a"); e == api.OK {
			Look(t, "Abort", b.Abort(), api.OK)
		}
	}
	Look(t, "Drop", e, api.ErrLimit)
	look()
	for _, do := range []func() api.Errno{
		func() api.Errno { _, e := b.Put("c", []byte(wide)); return e },
		func() api.Errno { _, e := b.Put("a", []byte(strings.ReplaceAll(wide, "t", "u"))); return e },
		func() api.Errno {
			return b.Edit("b", edit.Edit{Op: edit.Replace, At: []int{0}, Node: Elem("x", slices.Repeat([]api.Node{Elem("z")}, 900)...)})
		},
	} {
		Look(t, "Begin", b.Begin(), api.OK)
		Look(t, "Edit", writes(7), api.OK)
		Look(t, "a change of many pages", do(), api.ErrLimit)
		look()
	}
	b = opened(t, d, 900)
	Look(t, "Begin", b.Begin(), api.OK)
	Look(t, "Drop", b.Drop("a"), api.OK)
	Look(t, "Commit", b.Commit(), api.OK)
	lookNames(t, b, "b")
	lookPages(t, b)
}

// TestBehindFull: document by document, till a drum has no page left, or a transaction's group has no room on the log: what was committed is there.
func TestBehindFull(t *testing.T) {
	for _, each := range []int{1, 3, 1000} {
		for _, sectors := range []int{256, 300, 1000} {
			d := NewDrum(t, sectors)
			b := opened(t, d, 1024)
			Look(t, "Begin", b.Begin(), api.OK)
			puts(t, b, "a", "<x/>")
			Look(t, "Commit", b.Commit(), api.OK)
			stands := []string{"a", "<x></x>\n"}
			var open []string
			e := api.OK
			for i := 0; e == api.OK; i++ {
				if i%each == 0 {
					Look(t, "Begin", b.Begin(), api.OK)
				}
				name, text := fmt.Sprintf("b%04d", i), fmt.Sprintf("<y z=\"%d\">t</y>", i)
				_, e = b.Put(name, []byte(text))
				open = append(open, name, text+"\n")
				if e == api.OK && i%each == each-1 {
					e = b.Commit()
					if e == api.OK {
						stands = append(stands, open...)
						open = nil
					}
				}
			}
			Look(t, "a Put or a Commit", e, api.ErrFull)
			lookAborted(t, b, stands...)
			Look(t, "Crash", d.Crash(nil), api.OK)
			lookAborted(t, opened(t, d, 8), stands...)
		}
	}
}

// TestBehindCommit: a transaction whose group is too long for the log is gone.
func TestBehindCommit(t *testing.T) {
	d := NewDrum(t, 1000)
	b := opened(t, d, 1024)
	Look(t, "Begin", b.Begin(), api.OK)
	puts(t, b, "a", "<x/>")
	Look(t, "Commit", b.Commit(), api.OK)
	Look(t, "Begin", b.Begin(), api.OK)
	puts(t, b, "b", "<x>"+strings.Repeat("<y/>t", 200)+"</x>")
	Look(t, "Commit", b.Commit(), api.ErrFull)
	lookAborted(t, b, "a", "<x></x>\n")
}

// TestBehindDocs: as many documents as there may be; one more is ErrFull, but another text of one of them isn't.
func TestBehindDocs(t *testing.T) {
	d := NewDrum(t, api.MaxSectors)
	b := opened(t, d, 1024)
	var words []string
	for i := range api.MaxDocs {
		if i%100 == 0 {
			Look(t, "Begin", b.Begin(), api.OK)
		}
		name := fmt.Sprintf("n%d", 1000+i)
		puts(t, b, name, "<x/>")
		words = append(words, name, "<x></x>\n")
		if i%100 == 99 {
			Look(t, "Commit", b.Commit(), api.OK)
		}
	}
	for range 2 {
		Look(t, "Begin", b.Begin(), api.OK)
		puts(t, b, "n1500", "<y/>")
		lookPut(t, b, "a", "<x>", 3, api.ErrTag)
		lookPut(t, b, "n1999", "<x>", 3, api.ErrTag)
		lookPut(t, b, "a", "<x/>", 0, api.ErrFull)
		lookAborted(t, b, words...)
	}
	Look(t, "Begin", b.Begin(), api.OK)
	Look(t, "Drop", b.Drop("n1500"), api.OK)
	puts(t, b, "a", "<x/>")
	lookPut(t, b, "b", "<x/>", 0, api.ErrFull)
	lookAborted(t, b, words...)
}

// sparing is a base on the smallest drum of which P21.5 tells, and how many bytes of names and texts it may still be told.
type sparing struct {
	base *Base
	left int
}

func newSparing(t *testing.T) *sparing {
	t.Helper()
	return &sparing{base: begun(t, 8192, 400), left: 2000}
}

// put puts a document, if there are so many bytes left; whether there were.
func (x *sparing) put(t *testing.T, name, text string) bool {
	t.Helper()
	if x.left -= len(name) + len(text); x.left < 0 {
		return false
	}
	puts(t, x.base, name, text)
	return true
}

// commit looks that all that was put finds room.
func (x *sparing) commit(t *testing.T) {
	t.Helper()
	lookPages(t, x.base)
	if e := x.base.Commit(); e != api.OK {
		t.Fatalf("P21.5: Commit: %d", e)
	}
	lookPages(t, x.base)
	Look(t, "Begin", x.base.Begin(), api.OK)
}

// short is the i-th of the shortest names.
func short(i int) string {
	letters := "abcdefghijklmnopqrstuvwxyzABCDEFGHIJKLMNOPQRSTUVWXYZ_"
	if i < len(letters) {
		return letters[i : i+1]
	}
	return string(rune(0xf8 + i - len(letters)))
}

// nested is elements each in the next one, each behind so many kids, and as many kids in the innermost one as there is room for: so their labels are long.
func nested(depth, ahead int) string {
	begin := strings.Repeat("<a>"+strings.Repeat("x<a/>", ahead), depth-1) + "<a>"
	end := strings.Repeat("</a>", depth)
	return begin + strings.Repeat("x<a/>", (1980-len(begin)-len(end))/5) + end
}

// TestP21_5: names and texts of 2000 bytes together find room on a drum of 8192 sectors, in one transaction or in many: as many documents, nodes, names or attributes as so many bytes say.
func TestP21_5(t *testing.T) {
	for _, text := range []func(i int) string{
		func(i int) string { return "<a/>" },
		func(i int) string { return "<" + short(i) + "/>" },
		func(i int) string { return "<" + short(i) + "/><?" + short(i+1) + "?>" },
		func(i int) string { return "<a " + short(i) + "='' " + short(i+1) + "=''/>" },
		func(i int) string { return "<a>" + strings.Repeat("x<a/>", 30) + "</a>" },
		func(i int) string { return strings.Repeat("<a>x", 32) + strings.Repeat("</a>x", 31) + "</a>" },
		func(i int) string { return strings.Repeat("<?a?>", 390) + "<a/>" },
	} {
		for _, each := range []int{1, 10, 1000} {
			for _, name := range []func(i int) string{short, func(i int) string { return short(i * 91 % 401) }, func(i int) string { return "a" }} {
				x := newSparing(t)
				for i := 0; x.put(t, name(i), text(i)); i++ {
					if i%each == each-1 {
						x.commit(t)
					}
				}
				x.commit(t)
			}
		}
	}
}

// TestP21_5Labels: as many nodes as so many bytes say whose labels are as long; alone, or in the place of another document, between others.
func TestP21_5Labels(t *testing.T) {
	for depth, ahead := range map[int]int{1: 0, 31: 0, 30: 1, 32: 4, 26: 8} {
		for _, others := range []int{0, 3} {
			x := newSparing(t)
			for i := range others {
				puts(t, x.base, short(i), "<a/>")
			}
			x.put(t, "a", nested(depth, ahead))
			x.commit(t)
		}
	}
}

// TestP21_5Drawn: documents come, take others' place and go, in transactions that are committed or aborted.
func TestP21_5Drawn(t *testing.T) {
	dice := Dice(211)
	for range 30 {
		x := newSparing(t)
		names := 1 + dice.Under(300)
		text := func() string {
			kids := strings.Repeat(dice.Of("x<a/>", "<b/>", "<!---->", "y<c d=''/>"), dice.Under(1+dice.Under(8)))
			return dice.Of("<a>"+kids+"</a>", "<"+short(dice.Under(300))+"/>")
		}
		for x.put(t, short(dice.Under(names)), text()) {
			switch dice.Under(12) {
			case 0, 1:
				x.commit(t)
			case 2:
				if e := x.base.Drop(short(dice.Under(names))); e != api.ErrNone {
					Look(t, "P21.5: Drop", e, api.OK)
				}
			case 3:
				if dice.OneIn(4) {
					Look(t, "Abort", x.base.Abort(), api.OK)
					Look(t, "Begin", x.base.Begin(), api.OK)
				}
			}
		}
		x.commit(t)
	}
}
