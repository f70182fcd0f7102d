package char

import (
	"bytes"
	"math"
	"slices"
	"strings"
	"testing"
	"unicode/utf8"

	"lectern/api"
)

type span struct{ lo, hi rune }

func chars() []span {
	return []span{{9, 10}, {13, 13}, {0x20, 0xd7ff}, {0xe000, 0xfffd}, {0x10000, 0x10ffff}}
}

func starts() []span {
	return []span{
		{'A', 'Z'}, {'_', '_'}, {'a', 'z'}, {0xc0, 0xd6}, {0xd8, 0xf6}, {0xf8, 0x2ff}, {0x370, 0x37d},
		{0x37f, 0x1fff}, {0x200c, 0x200d}, {0x2070, 0x218f}, {0x2c00, 0x2fef}, {0x3001, 0xd7ff},
		{0xf900, 0xfdcf}, {0xfdf0, 0xfffd}, {0x10000, 0xeffff},
	}
}

func parts() []span {
	return append(starts(), span{'-', '.'}, span{'0', '9'}, span{0xb7, 0xb7}, span{0x300, 0x36f}, span{0x203f, 0x2040})
}

func inAny(l []span, r rune) bool {
	return slices.ContainsFunc(l, func(s span) bool { return s.lo <= r && r <= s.hi })
}

func TestP1_1Classes(t *testing.T) {
	c, s, p := chars(), starts(), parts()
	look := func(r rune) {
		if IsChar(r) != inAny(c, r) {
			t.Errorf("IsChar(%x) = %t", r, IsChar(r))
		}
		if IsStart(r) != inAny(s, r) {
			t.Errorf("IsStart(%x) = %t", r, IsStart(r))
		}
		if IsPart(r) != inAny(p, r) {
			t.Errorf("IsPart(%x) = %t", r, IsPart(r))
		}
	}
	for r := rune(-300); r < 0x110100; r++ {
		look(r)
	}
	for _, r := range []rune{math.MinInt32, math.MinInt32 + 'a', math.MaxInt32, math.MaxInt32 - 1, 1<<24 + 'a'} {
		look(r)
	}
}

func TestP1_1Words(t *testing.T) {
	for _, r := range ":;@[`{ +,/×÷\u037e\u2000\u3000" {
		if IsStart(r) || IsPart(r) {
			t.Errorf("%q stands in names", r)
		}
	}
	for _, r := range "-.09·\u0300\u036f\u203f\u2040" {
		if IsStart(r) || !IsPart(r) {
			t.Errorf("%q is a part and no start", r)
		}
	}
}

// decode is Next at the place 0, as the chapter says it.
func decode(b []byte) (rune, int, api.Errno) {
	if len(b) == 0 {
		return 0, 0, api.ErrArg
	}
	size, least, r := 1, rune(0), rune(b[0])
	switch c := b[0]; {
	case c >= 0xf5 || 0x80 <= c && c <= 0xc1:
		return 0, 0, api.ErrUTF8
	case c >= 0xf0:
		size, least, r = 4, 0x10000, rune(c&7)
	case c >= 0xe0:
		size, least, r = 3, 0x800, rune(c&15)
	case c >= 0xc2:
		size, least, r = 2, 0x80, rune(c&31)
	}
	for i := 1; i < size; i++ {
		if i >= len(b) || b[i] < 0x80 || b[i] > 0xbf {
			return 0, 0, api.ErrUTF8
		}
		r = r<<6 | rune(b[i]&63)
	}
	if r < least || 0xd800 <= r && r <= 0xdfff || r > 0x10ffff {
		return 0, 0, api.ErrUTF8
	}
	if !inAny(chars(), r) {
		return 0, 0, api.ErrChar
	}
	return r, size, api.OK
}

func lookNext(t *testing.T, b []byte) {
	t.Helper()
	wr, wn, we := decode(b)
	if r, n, e := Next(b, 0); r != wr || n != wn || e != we {
		t.Fatalf("Next(% x, 0) = %x, %d, %d, not %x, %d, %d", b, r, n, e, wr, wn, we)
	}
	far := append([]byte("é-"), b...)
	if we == api.OK {
		wn += 3
	}
	if len(b) == 0 {
		return
	}
	if r, n, e := Next(far, 3); r != wr || n != wn || e != we {
		t.Fatalf("Next(% x, 3) = %x, %d, %d, not %x, %d, %d", far, r, n, e, wr, wn, we)
	}
}

func TestP1_2NextOfAllChars(t *testing.T) {
	for r := rune(0); r <= 0x10ffff; r++ {
		if utf8.ValidRune(r) {
			b := utf8.AppendRune(nil, r)
			lookNext(t, b)
			lookNext(t, b[:len(b)-1])
		}
	}
}

func TestP1_2NextOfBytes(t *testing.T) {
	lookNext(t, nil)
	edges := []byte{0, 9, 'a', 0x7f, 0x80, 0x81, 0x8f, 0x90, 0x9f, 0xa0, 0xbe, 0xbf, 0xc0, 0xc2, 0xe0, 0xed, 0xf0, 0xf4, 0xff}
	for a := range 256 {
		lookNext(t, []byte{byte(a)})
		for b := range 256 {
			lookNext(t, []byte{byte(a), byte(b)})
			if a < 0xe0 {
				continue
			}
			for _, c := range edges {
				lookNext(t, []byte{byte(a), byte(b), c})
				for _, d := range edges {
					lookNext(t, []byte{byte(a), byte(b), c, d})
				}
			}
		}
	}
}

func TestP1_2NextExamples(t *testing.T) {
	for _, c := range []struct {
		b      string
		at     int
		r      rune
		behind int
		e      api.Errno
	}{
		{"\xc3\xa9", 0, 0xe9, 2, api.OK},
		{"\xc3\xa9", 1, 0, 0, api.ErrUTF8},
		{"\xc0\x80", 0, 0, 0, api.ErrUTF8},
		{"\xef\xbf\xbe", 0, 0, 0, api.ErrChar},
		{"\xef\xbf\xbd", 0, 0xfffd, 3, api.OK},
		{"\xed\xa0\x80", 0, 0, 0, api.ErrUTF8},
		{"\xf4\x90\x80\x80", 0, 0, 0, api.ErrUTF8},
		{"\xf4\x8f\xbf\xbf", 0, 0x10ffff, 4, api.OK},
		{"a\x00", 0, 'a', 1, api.OK},
		{"a\x00", 1, 0, 0, api.ErrChar},
		{"ab", -1, 0, 0, api.ErrArg},
		{"ab", 2, 0, 0, api.ErrArg},
		{"ab", 3, 0, 0, api.ErrArg},
		{"ab", math.MinInt, 0, 0, api.ErrArg},
		{"ab", math.MaxInt, 0, 0, api.ErrArg},
		{"", 0, 0, 0, api.ErrArg},
	} {
		if r, n, e := Next([]byte(c.b), c.at); r != c.r || n != c.behind || e != c.e {
			t.Errorf("Next(%q, %d) = %x, %d, %d", c.b, c.at, r, n, e)
		}
	}
	if _, _, e := Next([]byte("\xc3\xa9")[:1], 0); e != api.ErrUTF8 {
		t.Error("Next reads the spare room")
	}
}

func TestP1_2Fault(t *testing.T) {
	for _, c := range []struct {
		b  string
		at int
		e  api.Errno
	}{
		{"", 0, api.OK},
		{"a\t\r\né\u4e00\U0001f600", 0, api.OK},
		{"a\x00b", 1, api.ErrChar},
		{"\x00", 0, api.ErrChar},
		{"é\xff\x00", 2, api.ErrUTF8},
		{"é\x00\xff", 2, api.ErrChar},
		{"\u4e00\uffff", 3, api.ErrChar},
		{"\u4e00\xef\xbf", 3, api.ErrUTF8},
		{"\xef\xbb\xbfa", 0, api.OK},
		{strings.Repeat("é", 5000) + "\x80", 10000, api.ErrUTF8},
	} {
		if at, e := Fault([]byte(c.b)); at != c.at || e != c.e {
			t.Errorf("Fault(%.20q) = %d, %d, not %d, %d", c.b, at, e, c.at, c.e)
		}
	}
	if at, e := Fault(nil); at != 0 || e != api.OK {
		t.Errorf("Fault(nil) = %d, %d", at, e)
	}
}

func names() []string {
	return []string{
		"a", "_", "Z", "a-1", "a.b", "a·", "é", "a\u0300", "a\u203f", "\ufffd", "\U0001f600", "xml", "xmlns",
		strings.Repeat("a", 100), strings.Repeat("é", 50), strings.Repeat("\u4e00", 33) + "a",
	}
}

func noNames() []string {
	return []string{
		"", "1a", "-a", ".a", "·a", "\u0300a", "a b", " a", "a ", "a\n", "a/b", "a×", "a\x00", "a\uffff",
		"\xff", "a\xff", "a\xc3", "a\xed\xa0\x80", "\U000f0000",
		strings.Repeat("a", 101), strings.Repeat("é", 50) + "a", strings.Repeat("\u4e00", 34), strings.Repeat("a", 100000),
	}
}

func TestP1_3Name(t *testing.T) {
	for _, s := range names() {
		if !Name(s) {
			t.Errorf("Name(%q) = false", s)
		}
	}
	for _, s := range noNames() {
		if Name(s) {
			t.Errorf("Name(%.120q) = true", s)
		}
	}
	for _, s := range []string{":", "a:b", ":a", "a:"} {
		if Name(s) {
			t.Errorf("Name(%q) = true", s)
		}
	}
}

func lookSplit(t *testing.T, q, prefix, local string, ok bool) {
	t.Helper()
	if p, l, o := Split(q); p != prefix || l != local || o != ok {
		t.Errorf("Split(%.120q) = %q, %q, %t", q, p, l, o)
	}
}

func TestP1_3Split(t *testing.T) {
	for _, a := range names() {
		lookSplit(t, a, "", a, true)
		lookSplit(t, ":"+a, "", "", false)
		lookSplit(t, a+":", "", "", false)
		lookSplit(t, a+":1", "", "", false)
		for _, b := range names() {
			lookSplit(t, a+":"+b, a, b, true)
			lookSplit(t, a+"::"+b, "", "", false)
			lookSplit(t, a+":"+b+":"+a, "", "", false)
		}
		for _, b := range noNames() {
			lookSplit(t, a+":"+b, "", "", false)
			lookSplit(t, b+":"+a, "", "", false)
		}
	}
	for _, b := range noNames() {
		lookSplit(t, b, "", "", false)
	}
	lookSplit(t, ":", "", "", false)
}

func TestP1_4Lines(t *testing.T) {
	for _, c := range []struct{ b, want string }{
		{"", ""},
		{"ab", "ab"},
		{"a\r\n\rb", "a\n\nb"},
		{"\r", "\n"},
		{"\r\n", "\n"},
		{"\n\r", "\n\n"},
		{"\n\n", "\n\n"},
		{"\r\r\n\n", "\n\n\n"},
		{"a\rb\r", "a\nb\n"},
		{"\xff\r\x00", "\xff\n\x00"},
		{"\u0085\u2028", "\u0085\u2028"},
	} {
		if got := Lines([]byte(c.b)); string(got) != c.want {
			t.Errorf("Lines(%q) = %q, not %q", c.b, got, c.want)
		}
	}
	if len(Lines(nil)) != 0 {
		t.Error("Lines(nil) isn't empty")
	}
	for c := range 256 {
		for d := range 256 {
			b := []byte{byte(c), byte(d)}
			want := strings.ReplaceAll(strings.ReplaceAll(string(b), "\r\n", "\n"), "\r", "\n")
			if got := Lines(b); string(got) != want {
				t.Errorf("Lines(%q) = %q, not %q", b, got, want)
			}
		}
	}
}

func TestP1_4LinesMemory(t *testing.T) {
	room := []byte("a\r\nb\r\nspare")
	given, before := room[:5], bytes.Clone(room)
	got := Lines(given)
	if string(got) != "a\nb\n" || !bytes.Equal(room, before) {
		t.Fatalf("Lines = %q, and makes %q of its argument", got, room)
	}
	got = got[:cap(got)]
	for i := range got {
		got[i] = 'x'
	}
	if !bytes.Equal(room, before) {
		t.Error("Lines answers its argument's memory")
	}
	if again := Lines(given); string(again) != "a\nb\n" {
		t.Errorf("Lines answers %q the second time", again)
	}
}

// TestP1 hands in many rows of bytes: what is answered hangs on them alone, and they stay.
func TestP1(t *testing.T) {
	pieces := []string{"", "a", ":", "\r", "\n", "\x00", "\xc3", "\xa9", "\xff", "é", "\ufffe", "\xed\xa0\x80", "\U0001f600", "-"}
	for _, x := range pieces {
		for _, y := range pieces {
			for _, z := range pieces {
				lookAll(t, x+y+z)
			}
		}
	}
}

func lookAll(t *testing.T, s string) {
	t.Helper()
	b := []byte(s)
	at, e := Fault(b)
	if at2, e2 := Fault(b); at2 != at || e2 != e {
		t.Errorf("Fault(%q) differs from call to call", s)
	}
	if (e == api.OK) != utf8.ValidString(strings.NewReplacer("\x00", "\xff", "\ufffe", "\xff").Replace(s)) {
		t.Errorf("Fault(%q) = %d, %d", s, at, e)
	}
	for i := -2; i <= len(b)+2; i++ {
		r, n, e := Next(b, i)
		if e != api.OK && (r != 0 || n != 0) || e == api.OK && n != i+utf8.RuneLen(r) {
			t.Errorf("Next(%q, %d) = %x, %d, %d", s, i, r, n, e)
		}
	}
	if p, l, ok := Split(s); ok != (p != "" && Name(p) && Name(l) && p+":"+l == s || p == "" && Name(s) && l == s) {
		t.Errorf("Split(%q) = %q, %q, %t", s, p, l, ok)
	}
	if bytes.ContainsRune(Lines(b), '\r') || string(b) != s {
		t.Errorf("Lines(%q)", s)
	}
}
