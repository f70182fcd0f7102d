package scope

import (
	"reflect"
	"slices"
	"strings"
	"testing"

	"lectern/api"
	"lectern/scan"
)

// pairs makes pairs of names and values by turns.
func pairs(words ...string) []scan.Pair {
	var l []scan.Pair
	for i := 0; i < len(words); i += 2 {
		l = append(l, scan.Pair{Name: words[i], Value: words[i+1]})
	}
	return l
}

func open(t *testing.T, s Scope, words ...string) Scope {
	t.Helper()
	inner, e := s.Open(pairs(words...))
	if e != api.OK {
		t.Fatalf("Open(%q): %d", words, e)
	}
	return inner
}

func lookOpen(t *testing.T, s Scope, want api.Errno, words ...string) {
	t.Helper()
	inner, e := s.Open(pairs(words...))
	if e != want {
		t.Errorf("Open(%.200q): %d, not %d", words, e, want)
	}
	if e != api.OK && !reflect.DeepEqual(inner, Scope{}) {
		t.Errorf("Open(%.200q): %d, and the scope %v", words, e, inner)
	}
}

func lookBound(t *testing.T, s Scope, prefix, want string, wantOK bool) {
	t.Helper()
	if space, ok := s.Bound(prefix); space != want || ok != wantOK {
		t.Errorf("Bound(%q) = %q, %t, not %q, %t", prefix, space, ok, want, wantOK)
	}
}

func lookPrefixes(t *testing.T, s Scope, want ...string) {
	t.Helper()
	if l := s.Prefixes(); !slices.Equal(l, want) {
		t.Errorf("Prefixes() = %q, not %q", l, want)
	}
}

func lookElement(t *testing.T, s Scope, q, space, local string) {
	t.Helper()
	if n, e := s.Element(q); n != (api.Name{URI: space, Local: local}) || e != api.OK {
		t.Errorf("Element(%q) = %q, %d, not %q in %q", q, n, e, local, space)
	}
}

func lookNoElement(t *testing.T, s Scope, q string, want api.Errno) {
	t.Helper()
	if n, e := s.Element(q); n != (api.Name{}) || e != want {
		t.Errorf("Element(%.120q) = %q, %d, not %d", q, n, e, want)
	}
}

// attrs makes attributes of spaces, local names and values by turns.
func attrs(words ...string) []api.Attr {
	var l []api.Attr
	for i := 0; i < len(words); i += 3 {
		l = append(l, api.Attr{Name: api.Name{URI: words[i], Local: words[i+1]}, Value: words[i+2]})
	}
	return l
}

func lookAttrs(t *testing.T, s Scope, l []scan.Pair, want []api.Attr) {
	t.Helper()
	if got, e := s.Attrs(l); !slices.Equal(got, want) || e != api.OK {
		t.Errorf("Attrs(%q) = %q, %d, not %q", l, got, e, want)
	}
}

func lookNoAttrs(t *testing.T, s Scope, want api.Errno, words ...string) {
	t.Helper()
	if got, e := s.Attrs(pairs(words...)); len(got) != 0 || e != want {
		t.Errorf("Attrs(%.120q) = %q, %d, not %d", words, got, e, want)
	}
}

func TestExamples(t *testing.T) {
	s := open(t, New(), "xmlns", "u", "xmlns:p", "v")
	lookElement(t, s, "a", "u", "a")
	lookElement(t, s, "p:a", "v", "a")
	lookAttrs(t, s, pairs("b", "1", "p:b", "2"), attrs("", "b", "1", "v", "b", "2"))
	lookPrefixes(t, s, "", "p")

	lookElement(t, open(t, s, "xmlns", ""), "a", "", "a")
	lookNoAttrs(t, open(t, s, "xmlns:q", "v"), api.ErrTwice, "p:b", "1", "q:b", "2")

	lookOpen(t, New(), api.ErrPrefix, "xmlns:p", "")
	lookOpen(t, New(), api.ErrReserved, "xmlns:xml", "u")
	lookOpen(t, New(), api.ErrReserved, "xmlns:xmlns", "u")
	lookNoElement(t, New(), "p:a", api.ErrPrefix)
	lookElement(t, New(), "xml:a", api.SpaceXML, "a")
}

// TestP4_1Zero: a new scope and the zero one know the same.
func TestP4_1Zero(t *testing.T) {
	var zero Scope
	for _, s := range []Scope{New(), zero, open(t, New()), open(t, zero, "a", "u", "p:b", "v")} {
		lookPrefixes(t, s)
		lookBound(t, s, "", "", true)
		lookBound(t, s, "xml", api.SpaceXML, true)
		lookBound(t, s, "xmlns", "", false)
		lookBound(t, s, "p", "", false)
		lookElement(t, s, "a", "", "a")
		lookAttrs(t, s, pairs("b", "1"), attrs("", "b", "1"))
		lookBound(t, open(t, s, "xmlns:p", "u"), "p", "u", true)
	}
}

func TestP4_1Open(t *testing.T) {
	outer := open(t, New(), "xmlns", "u", "xmlns:p", "v", "xmlns:q", "w")
	s := open(t, outer, "xmlns:p", "x", "b", "1", "xmlns:r", "u")
	lookBound(t, s, "", "u", true)
	lookBound(t, s, "p", "x", true)
	lookBound(t, s, "q", "w", true)
	lookBound(t, s, "r", "u", true)
	lookPrefixes(t, s, "", "p", "q", "r")

	s = open(t, s, "xmlns", "")
	lookBound(t, s, "", "", true)
	lookPrefixes(t, s, "p", "q", "r")
	lookElement(t, s, "a", "", "a")

	s = open(t, s, "xmlns:p", "v", "xmlns", "y")
	lookBound(t, s, "", "y", true)
	lookBound(t, s, "p", "v", true)
	lookPrefixes(t, s, "", "p", "q", "r")
}

// TestP4_1Order: in whichever order the pairs stand, the same is declared.
func TestP4_1Order(t *testing.T) {
	for _, words := range [][]string{
		{"xmlns", "u", "xmlns:p", "v", "xmlns:b", "w"},
		{"xmlns:b", "w", "xmlns", "u", "xmlns:p", "v"},
		{"xmlns:p", "v", "xmlns:b", "w", "xmlns", "u"},
	} {
		s := open(t, New(), words...)
		lookPrefixes(t, s, "", "b", "p")
		lookBound(t, s, "", "u", true)
		lookBound(t, s, "b", "w", true)
		lookBound(t, s, "p", "v", true)
	}
}

// TestP4_1Reserved: what may not be declared, and what may.
func TestP4_1Reserved(t *testing.T) {
	for _, s := range []Scope{New(), open(t, New(), "xmlns", "u", "xmlns:p", "v")} {
		for _, space := range []string{"", "u", api.SpaceXML, api.SpaceXMLNS, strings.Repeat("u", 101)} {
			lookOpen(t, s, api.ErrReserved, "xmlns:xmlns", space)
			if space != api.SpaceXML {
				lookOpen(t, s, api.ErrReserved, "xmlns:xml", space)
			}
		}
		for _, name := range []string{"xmlns", "xmlns:p", "xmlns:XML", "xmlns:xmlx", "xmlns:é"} {
			lookOpen(t, s, api.ErrReserved, name, api.SpaceXML)
			lookOpen(t, s, api.ErrReserved, name, api.SpaceXMLNS)
			lookOpen(t, s, api.OK, name, api.SpaceXML+"/")
			lookOpen(t, s, api.OK, name, strings.TrimSuffix(api.SpaceXMLNS, "/"))
			lookOpen(t, s, api.OK, name, strings.ToUpper(api.SpaceXML))
		}
		lookOpen(t, s, api.OK, "xmlns:xml", api.SpaceXML)
		lookOpen(t, s, api.OK, "xmlns:XMLNS", "u")
		lookOpen(t, s, api.OK, "xmlns:xmlnsx", "u")
	}
}

func TestP4_1Prefix(t *testing.T) {
	s := open(t, New(), "xmlns", "u", "xmlns:p", "v")
	lookOpen(t, s, api.ErrPrefix, "xmlns:p", "")
	lookOpen(t, s, api.ErrPrefix, "xmlns:q", "")
	lookOpen(t, s, api.OK, "xmlns", "")
	lookOpen(t, s, api.OK, "xmlns:p", " ")
	lookOpen(t, s, api.OK, "p:b", "")
}

func TestP4_1Long(t *testing.T) {
	for _, name := range []string{"xmlns", "xmlns:p"} {
		for _, space := range []string{strings.Repeat("u", 100), strings.Repeat("é", 50), strings.Repeat("\xff", 100)} {
			lookOpen(t, New(), api.OK, name, space)
			lookOpen(t, New(), api.ErrLong, name, space+"u")
			lookBound(t, open(t, New(), name, space), strings.TrimPrefix(name[5:], ":"), space, true)
		}
		lookOpen(t, New(), api.ErrLong, name, strings.Repeat("u", 100000))
	}
	lookOpen(t, New(), api.OK, "p", strings.Repeat("u", 100000))
}

func TestP4_1Twice(t *testing.T) {
	s := open(t, New(), "xmlns", "u", "xmlns:p", "v")
	lookOpen(t, s, api.ErrTwice, "xmlns", "u", "xmlns", "u")
	lookOpen(t, s, api.ErrTwice, "xmlns", "", "xmlns", "w")
	lookOpen(t, s, api.ErrTwice, "xmlns:p", "u", "b", "1", "xmlns:p", "w")
	lookOpen(t, s, api.ErrTwice, "xmlns:xml", api.SpaceXML, "xmlns:xml", api.SpaceXML)
	lookOpen(t, s, api.OK, "xmlns", "u", "xmlns:p", "u", "xmlns:P", "u", "xmlns:pp", "u")
	lookOpen(t, s, api.OK, "b", "u", "b", "u", "p:b", "u", "p:b", "u")
}

// TestP4_1First: of the errors of a pair the first one of the chapter is told, of those of several pairs the first pair's.
func TestP4_1First(t *testing.T) {
	long := strings.Repeat("u", 101)
	lookOpen(t, New(), api.ErrReserved, "xmlns:p", "v", "xmlns:p", api.SpaceXML)
	lookOpen(t, New(), api.ErrReserved, "xmlns:xml", api.SpaceXML, "xmlns:xml", "")
	lookOpen(t, New(), api.ErrPrefix, "xmlns:p", "v", "xmlns:p", "")
	lookOpen(t, New(), api.ErrLong, "xmlns:p", "v", "xmlns:p", long)
	lookOpen(t, New(), api.ErrTwice, "xmlns:p", "v", "xmlns:p", "v", "xmlns:q", "")
	faults := []struct {
		name, space string
		e           api.Errno
	}{{"xmlns:xmlns", "u", api.ErrReserved}, {"xmlns:q", "", api.ErrPrefix}, {"xmlns:r", long, api.ErrLong}, {"xmlns:p", "v", api.ErrTwice}}
	for _, a := range faults {
		for _, b := range faults {
			lookOpen(t, New(), a.e, "xmlns:p", "u", "b", "1", a.name, a.space, b.name, b.space)
		}
	}
}

// TestP4_1NoDeclarations: pairs that look like declarations and are none.
func TestP4_1NoDeclarations(t *testing.T) {
	outer := open(t, New(), "xmlns:p", "v")
	for _, name := range []string{"", "xmlns:", ":xmlns", "xmlns:a:b", "xmlns::a", "xmlns:1", "XMLNS", "XMLNS:p", "Xmlns:p", "xmlnsp", "xmln", "xmlns ", "xmlns:p ", "p:xmlns", "p:xml", "xml:xmlns", "xmlns:\xff", "xmlns:" + strings.Repeat("a", 101)} {
		for _, space := range []string{"", "u", api.SpaceXML, api.SpaceXMLNS, strings.Repeat("u", 101)} {
			lookOpen(t, outer, api.OK, name, space, name, space)
			s := open(t, outer, name, space)
			lookPrefixes(t, s, "p")
			lookBound(t, s, "p", "v", true)
			lookBound(t, s, "", "", true)
		}
	}
}

func TestP4_2Bound(t *testing.T) {
	s := open(t, New(), "xmlns:q", "v", "xmlns:P", "w", "xmlns:é", "x", "xmlns:xml", api.SpaceXML, "xmlns:p", "u")
	for prefix, space := range map[string]string{"q": "v", "P": "w", "é": "x", "xml": api.SpaceXML, "p": "u", "": ""} {
		lookBound(t, s, prefix, space, true)
	}
	for _, prefix := range []string{"xmlns", "Q", "pp", "xmlns:p", ":", "p:", "XML", "\xff", "b", "zz", strings.Repeat("p", 1000)} {
		lookBound(t, s, prefix, "", false)
	}
	lookPrefixes(t, s, "P", "p", "q", "é")
}

func TestP4_2Prefixes(t *testing.T) {
	lookPrefixes(t, open(t, New(), "xmlns:xml", api.SpaceXML))
	lookPrefixes(t, open(t, New(), "xmlns", ""))
	lookPrefixes(t, open(t, New(), "xmlns", "u"), "")
	// By their bytes: capitals stand ahead, and longer ones behind what they begin with.
	s := open(t, New(), "xmlns:b", "1", "xmlns:\U0001f600", "2", "xmlns:a", "3", "xmlns:\uffee", "4", "xmlns:B", "5", "xmlns:a-", "6", "xmlns:_", "7", "xmlns", "8", "xmlns:aa", "9", "xmlns:é", "0")
	lookPrefixes(t, s, "", "B", "_", "a", "a-", "aa", "b", "é", "\uffee", "\U0001f600")
}

func TestP4_3Element(t *testing.T) {
	long := strings.Repeat("a", 100)
	for _, s := range []Scope{New(), open(t, New(), "xmlns:p", "v", "xmlns:"+long, "w"), open(t, New(), "xmlns", "u", "xmlns:p", "v", "xmlns:"+long, "w")} {
		space, _ := s.Bound("")
		for _, local := range []string{"a", "xml", "xmlns", "é-1", long, strings.Repeat("é", 50)} {
			lookElement(t, s, local, space, local)
			lookElement(t, s, "xml:"+local, api.SpaceXML, local)
			lookNoElement(t, s, "xmlns:"+local, api.ErrReserved)
			lookNoElement(t, s, "q:"+local, api.ErrPrefix)
			lookNoElement(t, s, "P:"+local, api.ErrPrefix)
			if _, ok := s.Bound("p"); ok {
				lookElement(t, s, "p:"+local, "v", local)
				lookElement(t, s, long+":"+local, "w", local)
			}
		}
		for _, q := range noNames() {
			lookNoElement(t, s, q, api.ErrName)
		}
	}
}

// noNames is what is no qualified name.
func noNames() []string {
	return []string{"", ":", ":a", "a:", "p:", "p:1", "1:a", "q:", "xmlns:", "xmlns:1", "p:a:b", "p::a", "p: a", "a b", "-", "\xff", "p:\xff", strings.Repeat("a", 101), "p:" + strings.Repeat("a", 101), strings.Repeat("é", 50) + "a:b"}
}

func TestP4_3Attrs(t *testing.T) {
	s := open(t, New(), "xmlns", "u", "xmlns:p", "v", "xmlns:q", "w", "xmlns:r", "v")
	lookAttrs(t, s, nil, nil)
	lookAttrs(t, s, pairs("xmlns", "x", "xmlns:p", "", "xmlns:xmlns", "y", "xmlns:p", "z"), nil)
	lookAttrs(t, s, pairs("b", ""), attrs("", "b", ""))
	lookAttrs(t, s, pairs("q:b", "1", "b", "2", "p:c", "3", "xml:lang", "4", "r:b", "5", "xmlns:z", "6", "a", "7"),
		attrs("", "a", "7", "", "b", "2", api.SpaceXML, "lang", "4", "v", "b", "5", "v", "c", "3", "w", "b", "1"))
	// A name in the default space and one in no space are two.
	lookAttrs(t, open(t, s, "xmlns:d", "u"), pairs("d:b", "1", "b", "2"), attrs("", "b", "2", "u", "b", "1"))
	lookAttrs(t, s, pairs("xml", "1", "é", "2", "B", "3", "a-", "4", "aa", "5", "a", "6", "xml:xmlns", "7"),
		attrs("", "B", "3", "", "a", "6", "", "a-", "4", "", "aa", "5", "", "xml", "1", "", "é", "2", api.SpaceXML, "xmlns", "7"))
}

// TestP4_3AttrsOrder: by the spaces first, by their bytes, whatever the prefixes are.
func TestP4_3AttrsOrder(t *testing.T) {
	s := open(t, New(), "xmlns:a", "z", "xmlns:b", "Z", "xmlns:c", "z/", "xmlns:d", "é", "xmlns:e", "\xff")
	l := pairs("e:a", "1", "d:a", "2", "c:a", "3", "b:a", "4", "a:a", "5", "a", "6", "a:b", "7", "a:B", "8", "z", "9")
	want := attrs("", "a", "6", "", "z", "9", "Z", "a", "4", "z", "B", "8", "z", "a", "5", "z", "b", "7", "z/", "a", "3", "é", "a", "2", "\xff", "a", "1")
	for range len(l) {
		lookAttrs(t, s, l, want)
		l = append(l[1:len(l):len(l)], l[0])
	}
	slices.Reverse(l)
	lookAttrs(t, s, l, want)
}

func TestP4_3AttrsErrors(t *testing.T) {
	s := open(t, New(), "xmlns", "u", "xmlns:p", "v", "xmlns:q", "v")
	for _, q := range noNames() {
		lookNoAttrs(t, s, api.ErrName, q, "1")
		lookNoAttrs(t, s, api.ErrName, "b", "1", "b", "1", q, "1", "z:b", "1")
	}
	lookNoAttrs(t, s, api.ErrPrefix, "z:b", "1")
	lookNoAttrs(t, s, api.ErrPrefix, "P:b", "1")
	lookNoAttrs(t, s, api.ErrPrefix, "b", "1", "p:b", "1", "q:b", "1", "z:b", "1", "1", "1")
	lookNoAttrs(t, s, api.ErrTwice, "b", "1", "b", "2")
	lookNoAttrs(t, s, api.ErrTwice, "b", "1", "c", "1", "b", "1")
	lookNoAttrs(t, s, api.ErrTwice, "p:b", "1", "b", "1", "a", "1", "q:b", "1")
	lookNoAttrs(t, s, api.ErrTwice, "xml:b", "1", "xml:b", "1")
	lookAttrs(t, s, pairs("p:b", "1", "q:c", "1", "b", "1", "xml:b", "1"), attrs("", "b", "1", api.SpaceXML, "b", "1", "v", "b", "1", "v", "c", "1"))
}

// told is all that a scope tells of some prefixes and names.
func told(s Scope) []any {
	l := []any{s.Prefixes()}
	for _, p := range []string{"", "p", "q", "r", "xml", "xmlns"} {
		space, ok := s.Bound(p)
		n, e := s.Element(strings.TrimPrefix(p+":a", ":"))
		a, ea := s.Attrs(pairs(strings.TrimPrefix(p+":a", ":"), "1", "a-", "2"))
		l = append(l, space, ok, n, e, a, ea)
	}
	return l
}

func TestP4_4Stays(t *testing.T) {
	s := open(t, New(), "xmlns", "u", "xmlns:p", "v", "xmlns:q", "w")
	before := told(s)
	inner := [][]scan.Pair{
		nil, pairs("xmlns", ""), pairs("xmlns", "x"), pairs("xmlns:p", "x"), pairs("xmlns:q", "u"), pairs("xmlns:a", "x"), pairs("xmlns:r", "x"), pairs("xmlns:z", "x"),
		pairs("xmlns:r", "x", "xmlns:p", ""), pairs("xmlns", "", "xmlns:p", "x", "xmlns:q", "x", "xmlns:r", "x"),
	}
	var opened []Scope
	var first [][]any
	for _, l := range inner {
		o, _ := s.Open(l)
		opened, first = append(opened, o), append(first, told(o))
	}
	for i, o := range opened {
		for _, l := range inner {
			o.Open(l)
		}
		if !reflect.DeepEqual(told(o), first[i]) {
			t.Errorf("the scope of %q told %v, and tells %v", inner[i], first[i], told(o))
		}
	}
	if !reflect.DeepEqual(told(s), before) {
		t.Errorf("the outer scope told %v, and tells %v", before, told(s))
	}
}

func TestP4_4Memory(t *testing.T) {
	room := pairs("xmlns:q", "v", "xmlns", "u", "c", "1", "q:b", "2", "a", "3", "spare", "4")
	before := slices.Clone(room)
	l := room[:5]
	s, e := New().Open(l)
	first := told(s)
	a, ea := s.Attrs(l)
	if e != api.OK || ea != api.OK || !slices.Equal(room, before) {
		t.Fatalf("%d, %d: what was handed in is %q", e, ea, room)
	}
	clear(room)
	if !reflect.DeepEqual(told(s), first) || !slices.Equal(a, attrs("", "a", "3", "", "c", "1", "v", "b", "2")) {
		t.Error("what was handed in is kept")
	}
	p := s.Prefixes()
	for i := range p[:cap(p)] {
		p[:cap(p)][i] = "w"
	}
	for i := range a[:cap(a)] {
		a[:cap(a)][i] = api.Attr{}
	}
	if !reflect.DeepEqual(told(s), first) {
		t.Error("what was answered is kept")
	}
	if again, _ := s.Attrs(before[:5]); !slices.Equal(again, attrs("", "a", "3", "", "c", "1", "v", "b", "2")) {
		t.Errorf("Attrs = %q the second time", again)
	}
}
