package base

import (
	"lectern/api"
	"lectern/drum"
	"lectern/hedge"
	"lectern/octet"
	"lectern/shelf"
	"lectern/vault"
)

const (
	fewestFrames  = 8
	mostFrames    = 1024
	fewestSectors = 256
)

// namesRoot is the page that the hedge of names has as its root: the first one that a vault gives.
const namesRoot = 1

// rootSize is how many bytes say a root's page.
const rootSize = 4

// Open is the base on a drum.
func Open(d *drum.Drum, frames int) (*Base, api.Errno) {
	switch {
	case d == nil:
		return nil, api.ErrNil
	case frames < fewestFrames, frames > mostFrames, d.Sectors() < fewestSectors, d.Sectors() > api.MaxSectors:
		return nil, api.ErrArg
	}
	v, e := vault.Open(d, frames)
	if e != api.OK {
		return nil, e
	}
	b := &Base{vault: v}
	acts := b.finding()
	if len(v.Taken()) == 0 { // a new drum, or one on which the making of a base was cut
		acts = b.making()
	}
	for _, act := range acts {
		if e := act(); e != api.OK {
			return nil, e
		}
	}
	return b, api.OK
}

// making is what makes a base without documents, one behind the other: a transaction, so that it is there whole or not at all.
func (b *Base) making() []func() api.Errno {
	return []func() api.Errno{
		b.vault.Begin,
		func() (e api.Errno) {
			b.names, e = hedge.Make(b.vault)
			return e
		},
		func() (e api.Errno) {
			b.shelf, e = shelf.Make(b.vault)
			return e
		},
		func() api.Errno { return b.names.Put(rootsKey(), rootsValue(b.shelf.Roots())) },
		b.vault.Commit,
	}
}

// finding is what finds the base that stands in the vault, one behind the other.
func (b *Base) finding() []func() api.Errno {
	var value []byte
	return []func() api.Errno{
		func() (e api.Errno) {
			b.names, e = hedge.At(b.vault, namesRoot)
			return e
		},
		func() (e api.Errno) {
			value, _, e = b.names.Get(rootsKey())
			return e
		},
		func() (e api.Errno) {
			if len(value) != 2*rootSize { // no base wrote it
				return api.ErrForm
			}
			nodes, names := octet.Number(value[:rootSize]), octet.Number(value[rootSize:])
			b.shelf, e = shelf.At(b.vault, int(nodes), int(names))
			return e
		},
	}
}

func rootsKey() []byte { return []byte{'r'} }

// rootsValue is what stands under that key.
func rootsValue(nodes, names int) []byte {
	return append(octet.Bytes(uint64(nodes), rootSize), octet.Bytes(uint64(names), rootSize)...)
}
