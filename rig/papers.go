package rig

import (
	"maps"
	"strings"

	"lectern/api"
	"lectern/canon"
	"lectern/drum"
	"lectern/edit"
	"lectern/parse"
	"lectern/sample"
)

// Papers is documents by their names.
type Papers map[string]api.Node

// Desk is a store of documents by their names. A base is one: its own tests use it by this.
type Desk interface {
	Store
	Abort() api.Errno
	Checkpoint() api.Errno
	Put(name string, text []byte) (int, api.Errno)
	Edit(name string, e edit.Edit) api.Errno
	Drop(name string) api.Errno
}

// Act is what is done in a desk, and told to the documents that should stand. It answers ErrSum, if something else is answered than these say.
type Act[D Desk] func(b D, m Papers) api.Errno

// Acts is a transaction of some acts.
func Acts[D Desk](l ...Act[D]) Transaction[D, Papers] {
	return func(b D, m Papers) (Papers, api.Errno) {
		next := maps.Clone(m)
		for _, do := range l {
			if e := do(b, next); e != api.OK {
				return nil, e
			}
		}
		return next, api.OK
	}
}

// Undone is a transaction that is aborted.
func Undone[D Desk](do Transaction[D, Papers]) Transaction[D, Papers] {
	return func(b D, m Papers) (Papers, api.Errno) {
		if _, e := do(b, m); e != api.OK {
			return nil, e
		}
		if e := b.Abort(); e != api.OK {
			return nil, e
		}
		return m, b.Begin()
	}
}

// Checked is a transaction ahead of which there is a checkpoint.
func Checked[D Desk](do Transaction[D, Papers]) Transaction[D, Papers] {
	return func(b D, m Papers) (Papers, api.Errno) {
		for _, f := range []func() api.Errno{b.Commit, b.Checkpoint, b.Begin} {
			if e := f(); e != api.OK {
				return nil, e
			}
		}
		return do(b, m)
	}
}

// Putting puts a document.
func Putting[D Desk](name, text string) Act[D] {
	return func(b D, m Papers) api.Errno {
		d, _, e := parse.Parse([]byte(text))
		if e != api.OK {
			return api.ErrSum
		}
		m[name] = d
		at, e := b.Put(name, []byte(text))
		if at != 0 {
			return api.ErrSum
		}
		return e
	}
}

// Dropping takes one away.
func Dropping[D Desk](name string) Act[D] {
	return func(b D, m Papers) api.Errno {
		delete(m, name)
		return b.Drop(name)
	}
}

// Editing edits one.
func Editing[D Desk](name string, e edit.Edit) Act[D] {
	return func(b D, m Papers) api.Errno {
		d, f := edit.Apply(m[name], e)
		if f != api.OK {
			return api.ErrSum
		}
		m[name] = d
		return b.Edit(name, e)
	}
}

// Paperwork is a script for a new desk: documents that come, are changed, and go. Read is done in some of its transactions.
func Paperwork[D Desk](sectors int, open func(d *drum.Drum) (D, api.Errno), read Act[D], stands func(b D, m Papers) bool) Script[D, Papers] {
	long := "<l xmlns='u' k='" + strings.Repeat("v", 300) + "'>" + strings.Repeat("t", 700) + "</l>"
	wide := "<a>" + strings.Repeat("<b/>t", 12) + "</a>"
	put, drop, change := Putting[D], Dropping[D], Editing[D]
	return Script[D, Papers]{Sectors: sectors, Open: open, First: Papers{}, Stands: stands, Acts: []Transaction[D, Papers]{
		Acts(put("a", "<x><y/>t</x>")),
		Acts(read, change("a", edit.Edit{Op: edit.Insert, At: []int{0, 1}, Node: sample.Elem("new")}), put("b", long)),
		Acts[D](),
		Undone(Acts(put("a", "<gone/>"), drop("b"), put("c", wide))),
		Acts(put("a", wide), put("c", "<y/>"), read),
		Checked(Acts(change("b", edit.Edit{Op: edit.Write, At: []int{0, 0}, Text: strings.Repeat("w", 600)}), drop("a"))),
		Acts(put("d", "<!--c--><x/>"), drop("c"), change("b", edit.Edit{Op: edit.Delete, At: []int{0, 0}})),
		Undone(Acts(drop("b"), drop("d"))),
		Acts(drop("b"), drop("d")),
		Acts(put("a", "<x/>"), read),
	}}
}

// DrawnName is a name, mostly of few.
func DrawnName(dice *sample.Dice) string {
	return dice.Of("a", "b", "c", "d", "r", "n", "dr", "é", "long-"+strings.Repeat("n", 95))
}

// DrawnText is the text of a drawn document, sometimes spoilt.
func DrawnText(dice *sample.Dice) []byte {
	b, _ := canon.Write(dice.Document())
	text := string(b)
	switch dice.Under(12) {
	case 0:
		text = text[:dice.Under(len(text)+1)]
	case 1:
		at := dice.Under(len(text))
		text = text[:at] + dice.Of("<", "&", "\x00", "]]>", "x", "<a>", "</a>", "\xff", "<!DOCTYPE a>", "a=''") + text[at:]
	case 2:
		text = "<many>" + strings.Repeat(dice.Of("<p/>t", "<q xmlns='u' r=''>t</q>", "<?i w?>"), dice.Under(150)) + "</many>"
	case 3:
		if dice.OneIn(5) {
			text = "<many>" + strings.Repeat("<p/>", 1990+dice.Under(20)) + "</many>"
		}
	}
	return []byte(text)
}
