package scope

import (
	"reflect"
	"slices"
	"strconv"
	"strings"
	"testing"

	"lectern/api"
	"lectern/char"
	"lectern/scan"
)

// The model keeps the pairs of all elements that are open, and looks for a prefix from the inner ones to the outer ones.
type model [][]scan.Pair

// declaredBy is the prefix that a name declares.
func declaredBy(name string) (string, bool) {
	if name == "xmlns" {
		return "", true
	}
	p, l, ok := char.Split(name)
	return l, ok && p == "xmlns"
}

func (m model) open(l []scan.Pair) (model, api.Errno) {
	for i, p := range l {
		prefix, ok := declaredBy(p.Name)
		if !ok {
			continue
		}
		switch {
		case prefix == "xmlns", prefix != "xml" && p.Value == api.SpaceXML, prefix == "xml" && p.Value != api.SpaceXML, p.Value == api.SpaceXMLNS:
			return nil, api.ErrReserved
		case prefix != "" && p.Value == "":
			return nil, api.ErrPrefix
		case len(p.Value) > 100:
			return nil, api.ErrLong
		}
		for _, q := range l[:i] {
			if other, ok := declaredBy(q.Name); ok && other == prefix {
				return nil, api.ErrTwice
			}
		}
	}
	return append(m[:len(m):len(m)], l), api.OK
}

func (m model) bound(prefix string) (string, bool) {
	if prefix == "xml" {
		return api.SpaceXML, true
	}
	for _, l := range slices.Backward(m) {
		for _, p := range l {
			if d, ok := declaredBy(p.Name); ok && d == prefix {
				return p.Value, true
			}
		}
	}
	return "", prefix == ""
}

func (m model) prefixes() []string {
	var all []string
	for _, l := range m {
		for _, p := range l {
			if d, ok := declaredBy(p.Name); ok && d != "xml" && !slices.Contains(all, d) {
				if space, _ := m.bound(d); space != "" {
					all = append(all, d)
				}
			}
		}
	}
	slices.Sort(all)
	return all
}

func (m model) element(q string) (api.Name, api.Errno) {
	p, l, ok := char.Split(q)
	if !ok {
		return api.Name{}, api.ErrName
	}
	if p == "xmlns" {
		return api.Name{}, api.ErrReserved
	}
	space, ok := m.bound(p)
	if !ok {
		return api.Name{}, api.ErrPrefix
	}
	return api.Name{URI: space, Local: l}, api.OK
}

func (m model) attrs(l []scan.Pair) ([]api.Attr, api.Errno) {
	var out []api.Attr
	for _, p := range l {
		if _, ok := declaredBy(p.Name); ok {
			continue
		}
		n, e := m.element(p.Name)
		if e != api.OK {
			return nil, e
		}
		if !strings.Contains(p.Name, ":") {
			n.URI = ""
		}
		at := 0
		for at < len(out) && (out[at].Name.URI < n.URI || out[at].Name.URI == n.URI && out[at].Name.Local < n.Local) {
			at++
		}
		out = slices.Insert(out, at, api.Attr{Name: n, Value: p.Value})
	}
	for i, a := range out {
		for _, b := range out[:i] {
			if a.Name == b.Name {
				return nil, api.ErrTwice
			}
		}
	}
	return out, api.OK
}

// dice is a row of numbers that seem to be drawn, the same ones each time.
type dice uint64

func (d *dice) under(n int) int {
	*d = *d*6364136223846793005 + 1442695040888963407
	return int(uint64(*d)>>33) % n
}

func (d *dice) of(l ...string) string { return l[d.under(len(l))] }

// pairs draws some pairs, most of them right.
func (d *dice) pairs() []scan.Pair {
	var l []scan.Pair
	for range d.under(6) {
		p := scan.Pair{Name: d.of("xmlns", "xmlns:p", "xmlns:q", "xmlns:r", "b", "c", "p:b", "q:b", "r:c"), Value: d.of("u", "v", "w", "x", "y")}
		switch d.under(30) {
		case 0:
			p.Value = d.of("", api.SpaceXML, api.SpaceXMLNS, strings.Repeat("u", 101))
		case 1:
			p.Name = d.of("xmlns:", "1", "z:b", "xmlns:xmlns", "", "p:", "xmlns:1")
		case 2:
			p = scan.Pair{Name: d.of("xmlns:xml", "xml:b"), Value: api.SpaceXML}
		case 3:
			p = scan.Pair{Name: "xmlns"}
		}
		l = append(l, p)
	}
	return l
}

func lookModel(t *testing.T, s Scope, m model, l []scan.Pair) {
	t.Helper()
	for _, prefix := range []string{"", "p", "q", "r", "z", "xml", "xmlns", "p:", "1"} {
		space, ok := s.Bound(prefix)
		if wspace, wok := m.bound(prefix); space != wspace || ok != wok {
			t.Fatalf("%q: Bound(%q) = %q, %t, not %q, %t", m, prefix, space, ok, wspace, wok)
		}
		for _, q := range []string{prefix, prefix + ":a"} {
			n, e := s.Element(q)
			if wn, we := m.element(q); n != wn || e != we {
				t.Fatalf("%q: Element(%q) = %q, %d, not %q, %d", m, q, n, e, wn, we)
			}
		}
	}
	if p, want := s.Prefixes(), m.prefixes(); !slices.Equal(p, want) {
		t.Fatalf("%q: Prefixes() = %q, not %q", m, p, want)
	}
	a, e := s.Attrs(l)
	if wa, we := m.attrs(l); !slices.Equal(a, wa) || e != we {
		t.Fatalf("%q: Attrs(%q) = %q, %d, not %q, %d", m, l, a, e, wa, we)
	}
}

func TestModel(t *testing.T) {
	d := dice(3)
	for range 4000 {
		scopes, models := []Scope{New()}, []model{nil}
		for range 6 {
			i := d.under(len(scopes))
			l := d.pairs()
			s, e := scopes[i].Open(l)
			m, we := models[i].open(l)
			if e != we {
				t.Fatalf("%q: Open(%q): %d, not %d", models[i], l, e, we)
			}
			if e != api.OK {
				continue
			}
			scopes, models = append(scopes, s), append(models, m)
			lookModel(t, s, m, d.pairs())
			lookModel(t, s, m, l)
		}
		for i, s := range scopes {
			lookModel(t, s, models[i], d.pairs())
		}
	}
}

// TestP1Many ends, too, however many pairs there are and however deep it goes.
func TestP1Many(t *testing.T) {
	var l []scan.Pair
	for i := range 50000 {
		n := strconv.Itoa(i)
		l = append(l, scan.Pair{Name: "xmlns:p" + n, Value: "u" + n}, scan.Pair{Name: "p" + n + ":b", Value: n})
	}
	s, e := New().Open(l)
	if p := s.Prefixes(); e != api.OK || len(p) != 50000 || p[0] != "p0" || p[2] != "p10" {
		t.Errorf("many prefixes: %d, %d", len(p), e)
	}
	a, e := s.Attrs(l)
	if e != api.OK || len(a) != 50000 || a[2].Name != (api.Name{URI: "u10", Local: "b"}) || a[2].Value != "10" {
		t.Errorf("many attributes: %d, %d", len(a), e)
	}
	if _, e := s.Attrs(append(l, l[1])); e != api.ErrTwice {
		t.Errorf("many attributes, one twice: %d", e)
	}
	if _, e := s.Open(append(l, l[0])); e != api.ErrTwice {
		t.Errorf("many prefixes, one twice: %d", e)
	}
	deep := New()
	for i := range 100000 {
		deep, _ = deep.Open(pairs("xmlns", strconv.Itoa(i), "xmlns:p", "u"+strconv.Itoa(i%7)))
	}
	lookBound(t, deep, "", "99999", true)
	lookBound(t, deep, "p", "u"+strconv.Itoa(99999%7), true)
	lookPrefixes(t, deep, "", "p")
}

// TestP1 hands in names of odd bytes: beside an error nothing is told, and the second time the same.
func TestP1(t *testing.T) {
	pieces := []string{"", ":", "xmlns", "xml", "p", "a", "1", "\xff", "\x00", "é", " "}
	s := open(t, New(), "xmlns:p", "v")
	for _, x := range pieces {
		for _, y := range pieces {
			for _, z := range pieces {
				q := x + y + z
				l := pairs(q, z, x+":"+y, z, q, x)
				a := lookTold(t, s, q, l)
				if b := lookTold(t, s, q, l); !reflect.DeepEqual(a, b) {
					t.Errorf("%q: %v, then %v", q, a, b)
				}
			}
		}
	}
}

func lookTold(t *testing.T, s Scope, q string, l []scan.Pair) []any {
	t.Helper()
	n, e := s.Element(q)
	a, ea := s.Attrs(l)
	o, eo := s.Open(l)
	space, ok := s.Bound(q)
	if e != api.OK && n != (api.Name{}) || ea != api.OK && len(a) > 0 || eo != api.OK && !reflect.DeepEqual(o, Scope{}) || !ok && space != "" {
		t.Errorf("%q: Element %q, %d; Attrs %q, %d; Open %v, %d; Bound %q, %t", q, n, e, a, ea, o, eo, space, ok)
	}
	return []any{n, e, a, ea, told(o), eo, space, ok}
}
