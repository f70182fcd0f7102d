package scope

import (
	"strings"

	"lectern/api"
	"lectern/char"
	"lectern/scan"
)

// binding is a prefix and the space that it stands for; the empty prefix's is the default space.
type binding struct {
	prefix, space string
}

// declares says whether a pair declares, and what.
func declares(p scan.Pair) (binding, bool) {
	if p.Name == declarer {
		return binding{"", strings.Clone(p.Value)}, true
	}
	prefix, local, ok := char.Split(p.Name)
	if !ok || prefix != declarer {
		return binding{}, false
	}
	return binding{local, strings.Clone(p.Value)}, true
}

// declared is what the pairs of an element declare, by the prefixes.
func declared(l []scan.Pair) (map[string]binding, api.Errno) {
	inner := map[string]binding{}
	for _, p := range l {
		b, ok := declares(p)
		if !ok {
			continue
		}
		if e := b.fault(); e != api.OK {
			return nil, e
		}
		if _, twice := inner[b.prefix]; twice {
			return nil, api.ErrTwice
		}
		inner[b.prefix] = b
	}
	return inner, api.OK
}

// fault is what is wrong with a binding by itself.
func (b binding) fault() api.Errno {
	switch {
	case b.prefix == declarer || b.space == api.SpaceXMLNS:
		return api.ErrReserved
	case (b.prefix == fixed) != (b.space == api.SpaceXML): // each of both goes with the other alone
		return api.ErrReserved
	case b.prefix != "" && b.space == "":
		return api.ErrPrefix
	case len(b.space) > api.MaxName:
		return api.ErrLong
	}
	return api.OK
}
