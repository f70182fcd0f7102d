package base

import (
	"lectern/api"
	"lectern/octet"
)

// entry is a name, and its document's number in the shelf.
type entry struct {
	name string
	doc  int
}

// docSize is how many bytes say a document's number.
const docSize = 4

// nameMark is what stands ahead of a name in its key: no other pair's key begins so.
const nameMark = 'd'

func nameKey(name string) []byte { return append([]byte{nameMark}, name...) }

// docOf is the number that a value says.
func docOf(value []byte) (int, api.Errno) {
	if len(value) != docSize { // no base wrote it
		return 0, api.ErrForm
	}
	return int(octet.Number(value)), api.OK
}

// number is the number of the document of a name.
func (b *Base) number(name string) (int, api.Errno) {
	value, ok, e := b.names.Get(nameKey(name))
	switch {
	case e != api.OK:
		return 0, e
	case !ok:
		return 0, api.ErrNone
	}
	return docOf(value)
}

// entries is all names, rising, with their documents' numbers.
func (b *Base) entries() ([]entry, api.Errno) {
	pairs, e := b.names.From(nameKey(""), api.MaxDocs)
	if e != api.OK {
		return nil, e
	}
	var l []entry
	for _, p := range pairs {
		if p.Key[0] != nameMark {
			break
		}
		doc, e := docOf(p.Value)
		if e != api.OK {
			return nil, e
		}
		l = append(l, entry{string(p.Key[1:]), doc})
	}
	return l, api.OK
}

// enter gives a name that has none the least number that no document has.
func (b *Base) enter(name string) (int, api.Errno) {
	l, e := b.entries()
	switch {
	case e != api.OK:
		return 0, e
	case len(l) >= api.MaxDocs:
		return 0, api.ErrFull
	}
	taken := map[int]struct{}{}
	for _, x := range l {
		taken[x.doc] = struct{}{}
	}
	for doc := 0; ; doc++ {
		if _, ok := taken[doc]; !ok {
			return doc, b.names.Put(nameKey(name), octet.Bytes(uint64(doc), docSize))
		}
	}
}

// leave takes a name out.
func (b *Base) leave(name string) api.Errno {
	_, e := b.names.Delete(nameKey(name))
	return e
}
