package refer

import (
	"bytes"
	"math"
	"strconv"
	"strings"
	"testing"

	"lectern/api"
	"lectern/char"
)

func lookExpand(t *testing.T, s string, at int, want rune, behind int, we api.Errno) {
	t.Helper()
	if r, n, e := Expand([]byte(s), at); r != want || n != behind || e != we {
		t.Errorf("Expand(%.60q, %d) = %x, %d, %d, not %x, %d, %d", s, at, r, n, e, want, behind, we)
	}
}

func TestP2_1ExpandRight(t *testing.T) {
	noughts := strings.Repeat("0", 10000)
	for _, c := range []struct {
		ref  string
		want rune
	}{
		{"&lt;", '<'}, {"&gt;", '>'}, {"&amp;", '&'}, {"&apos;", '\''}, {"&quot;", '"'},
		{"&#x41;", 'A'}, {"&#65;", 'A'}, {"&#0065;", 'A'}, {"&#x000041;", 'A'},
		{"&#" + noughts + "65;", 'A'}, {"&#x" + noughts + "41;", 'A'},
		{"&#9;", 9}, {"&#xa;", 10}, {"&#xA;", 10}, {"&#13;", 13}, {"&#32;", 32},
		{"&#xaBcDeF;", 0}, {"&#xFfFd;", 0xfffd}, {"&#x0f9e8;", 0xf9e8}, {"&#xd7ff;", 0xd7ff}, {"&#xe000;", 0xe000},
		{"&#x10000;", 0x10000}, {"&#x10FFFF;", 0x10ffff}, {"&#1114111;", 0x10ffff}, {"&#1234567890;", 0},
	} {
		behind, e := len(c.ref), api.OK
		if c.want == 0 {
			behind, e = 0, api.ErrChar
		}
		lookExpand(t, c.ref, 0, c.want, behind, e)
		lookExpand(t, c.ref+";&", 0, c.want, behind, e)
		if e == api.OK {
			behind += 3
		}
		lookExpand(t, "é&"+c.ref, 3, c.want, behind, e)
	}
}

func TestP2_1ExpandAll(t *testing.T) {
	for n := range 0x110100 {
		want, e := rune(n), api.OK
		if !char.IsChar(want) {
			want, e = 0, api.ErrChar
		}
		for _, s := range []string{"&#" + strconv.Itoa(n) + ";", "&#x" + strconv.FormatInt(int64(n), 16) + ";"} {
			behind := len(s)
			if e != api.OK {
				behind = 0
			}
			lookExpand(t, s, 0, want, behind, e)
		}
	}
}

func TestP2_1ExpandErrors(t *testing.T) {
	for _, s := range []string{
		"&", "&;", "& ", "&#", "&#;", "&#x", "&#x;", "&#X41;", "&lt", "&lt ;", "&l;", "&LT;", "&Amp;", "&nbsp;", "&a", "&&lt;",
		"& lt;", "&# 65;", "&#65 ;", "&#65", "&#x41", "&#-65;", "&#+65;", "&#6_5;", "&#4a;", "&#xg;", "&#x4g;", "&#x4:;", "&#x4@;", "&#x4`;",
		"&#0", "&#xd800", "&#xx41;", "&#x0x41;", "&#٣;", "&lt\x00", "&#\xff;", "&#99999999999999999999999", "&amplt;", "&apo;", "&quot",
	} {
		lookExpand(t, s, 0, 0, 0, api.ErrRef)
		lookExpand(t, "ab"+s, 2, 0, 0, api.ErrRef)
	}
	for _, s := range []string{
		"&#0;", "&#x0;", "&#000;", "&#8;", "&#11;", "&#31;", "&#xd800;", "&#xDFFF;", "&#xfffe;", "&#xffff;", "&#x110000;", "&#1114112;",
		"&#4294967361;", "&#x100000041;", "&#18446744073709551681;", "&#x10000000000000041;", "&#" + strings.Repeat("9", 5000) + ";", "&#x8000000000000041;",
	} {
		lookExpand(t, s, 0, 0, 0, api.ErrChar)
		lookExpand(t, "ab"+s, 2, 0, 0, api.ErrChar)
	}
	for _, at := range []int{-1, 1, 2, 3, 4, 5, math.MinInt, math.MaxInt} {
		lookExpand(t, "&lt;", at, 0, 0, api.ErrArg)
	}
	lookExpand(t, "", 0, 0, 0, api.ErrArg)
	if _, _, e := Expand(nil, 0); e != api.ErrArg {
		t.Errorf("Expand(nil, 0): %d", e)
	}
	if _, _, e := Expand([]byte("&lt;")[:3], 0); e != api.ErrRef {
		t.Error("Expand reads the spare room")
	}
}

func TestP2_2Text(t *testing.T) {
	for _, c := range []struct{ s, want string }{
		{"", ""},
		{"a<b&c", "a&lt;b&amp;c"},
		{"&<>\r", "&amp;&lt;&gt;&#13;"},
		{"\"'\t\n", "\"'\t\n"},
		{"]]>", "]]&gt;"},
		{"&lt;&#13;", "&amp;lt;&amp;#13;"},
		{"é\u4e00\U0001f600", "é\u4e00\U0001f600"},
		{"\xff<\x00\xc3\r\n", "\xff&lt;\x00\xc3&#13;\n"},
	} {
		if got := Text(c.s); got != c.want {
			t.Errorf("Text(%q) = %q, not %q", c.s, got, c.want)
		}
	}
}

func TestP2_2Quote(t *testing.T) {
	for _, c := range []struct{ s, want string }{
		{"", ""},
		{"a\"b\n", "a&quot;b&#10;"},
		{"&<\"\t\n\r", "&amp;&lt;&quot;&#9;&#10;&#13;"},
		{">'] ", ">'] "},
		{"&lt;", "&amp;lt;"},
		{"é\u4e00\U0001f600", "é\u4e00\U0001f600"},
		{"\xff\"\x00\xc3", "\xff&quot;\x00\xc3"},
	} {
		if got := Quote(c.s); got != c.want {
			t.Errorf("Quote(%q) = %q, not %q", c.s, got, c.want)
		}
	}
}

func TestP2_2EachByte(t *testing.T) {
	for c := range 256 {
		s := string([]byte{byte(c)})
		text, value := s, s
		switch c {
		case '&':
			text, value = "&amp;", "&amp;"
		case '<':
			text, value = "&lt;", "&lt;"
		case '>':
			text = "&gt;"
		case '"':
			value = "&quot;"
		case 9, 10:
			value = "&#" + strconv.Itoa(c) + ";"
		case 13:
			text, value = "&#13;", "&#13;"
		}
		if Text(s) != text || Quote(s) != value {
			t.Errorf("Text(%q) = %q, Quote: %q", s, Text(s), Quote(s))
		}
	}
}

type reading struct {
	b, want string
	at      int
	e       api.Errno
}

func lookReadings(t *testing.T, name string, f func([]byte) (string, int, api.Errno), l []reading) {
	t.Helper()
	for _, c := range l {
		if s, at, e := f([]byte(c.b)); s != c.want || at != c.at || e != c.e {
			t.Errorf("%s(%q) = %q, %d, %d, not %q, %d, %d", name, c.b, s, at, e, c.want, c.at, c.e)
		}
	}
}

// readings is what texts and values have in common.
func readings() []reading {
	return []reading{
		{"", "", 0, api.OK},
		{"a", "a", 0, api.OK},
		{"a&gt;b", "a>b", 0, api.OK},
		{"&lt;&gt;&amp;&apos;&quot;", "<>&'\"", 0, api.OK},
		{"&amp;lt;", "&lt;", 0, api.OK},
		{"&#38;#60;", "&#60;", 0, api.OK},
		{"é&#xe9;\u4e00\U0001f600", "éé\u4e00\U0001f600", 0, api.OK},
		{"&#9;&#10;&#13;", "\t\n\r", 0, api.OK},
		{"]]", "]]", 0, api.OK},
		{"]>]", "]>]", 0, api.OK},
		{"]]&gt;", "]]>", 0, api.OK},
		{"]&#93;>", "]]>", 0, api.OK},
		{"a'\">", "a'\">", 0, api.OK},
		{"<", "", 0, api.ErrSyntax},
		{"é<&\x00", "", 2, api.ErrSyntax},
		{"a&b<", "", 1, api.ErrRef},
		{"a&#0;<", "", 1, api.ErrChar},
		{"a&", "", 1, api.ErrRef},
		{"&lt;&lt", "", 4, api.ErrRef},
		{"\u4e00\x00&", "", 3, api.ErrChar},
		{"\u4e00\xff<", "", 3, api.ErrUTF8},
		{"\u4e00\xe4\xb8<", "", 3, api.ErrUTF8},
		{"\uffff", "", 0, api.ErrChar},
		{"&#xd800;", "", 0, api.ErrChar},
	}
}

func TestP2_3ReadText(t *testing.T) {
	lookReadings(t, "ReadText", ReadText, readings())
	lookReadings(t, "ReadText", ReadText, []reading{
		{"a\tb\nc\rd\r\n", "a\tb\nc\rd\r\n", 0, api.OK},
		{"a]]>b", "", 1, api.ErrSyntax},
		{"]]>", "", 0, api.ErrSyntax},
		{"]]]>", "", 1, api.ErrSyntax},
		{"&amp;]]>&", "", 5, api.ErrSyntax},
		{"&x;]]>", "", 0, api.ErrRef},
		{"]]\x00>", "", 2, api.ErrChar},
	})
	if s, at, e := ReadText([]byte("a]]>")[:3]); s != "a]]" || at != 0 || e != api.OK {
		t.Error("ReadText reads the spare room")
	}
}

func TestP2_3ReadValue(t *testing.T) {
	lookReadings(t, "ReadValue", ReadValue, readings())
	lookReadings(t, "ReadValue", ReadValue, []reading{
		{"a\t&#9;", "a \t", 0, api.OK},
		{"\t\n\r\r\n ", "      ", 0, api.OK},
		{"&#x9;\n&#xA;\r&#xD;", "\t \n \r", 0, api.OK},
		{"a]]>b", "a]]>b", 0, api.OK},
		{"\n<", "", 1, api.ErrSyntax},
		{"]]>\x00", "", 3, api.ErrChar},
	})
}

func TestP2_3Nil(t *testing.T) {
	if s, at, e := ReadText(nil); s != "" || at != 0 || e != api.OK {
		t.Errorf("ReadText(nil) = %q, %d, %d", s, at, e)
	}
	if s, at, e := ReadValue(nil); s != "" || at != 0 || e != api.OK {
		t.Errorf("ReadValue(nil) = %q, %d, %d", s, at, e)
	}
}

func lookBack(t *testing.T, s string) {
	t.Helper()
	if got, at, e := ReadText([]byte(Text(s))); got != s || at != 0 || e != api.OK {
		t.Errorf("ReadText(Text(%q)) = %q, %d, %d", s, got, at, e)
	}
	if got, at, e := ReadValue([]byte(Quote(s))); got != s || at != 0 || e != api.OK {
		t.Errorf("ReadValue(Quote(%q)) = %q, %d, %d", s, got, at, e)
	}
}

func TestP2_4(t *testing.T) {
	for r := rune(0); r <= 0x10ffff; r++ {
		if char.IsChar(r) {
			lookBack(t, string(r))
		}
	}
	pieces := []string{"", "]", ">", "<", "&", ";", "#", "\r", "\n", "\t", "\"", "'", "amp;", "#13;", "é"}
	for _, x := range pieces {
		for _, y := range pieces {
			for _, z := range pieces {
				lookBack(t, x+y+z)
			}
		}
	}
}

// TestP1 hands in many rows of bytes: what is answered hangs on them alone, and they stay.
func TestP1(t *testing.T) {
	pieces := []string{"", "&", "&#", "&#x", "41", ";", "lt;", "<", "]]", "]>", "\x00", "\xff", "\xc3", "\r", "é", "0"}
	for _, x := range pieces {
		for _, y := range pieces {
			for _, z := range pieces {
				lookAll(t, x+y+z)
			}
		}
	}
}

func lookAll(t *testing.T, s string) {
	t.Helper()
	b := []byte(s)
	for at := -2; at <= len(b)+2; at++ {
		if r, n, e := Expand(b, at); e != api.OK && (r != 0 || n != 0) || e == api.OK && (b[n-1] != ';' || !char.IsChar(r)) {
			t.Errorf("Expand(%q, %d) = %x, %d, %d", s, at, r, n, e)
		}
	}
	for _, f := range []func([]byte) (string, int, api.Errno){ReadText, ReadValue} {
		got, at, e := f(b)
		if e == api.OK && at != 0 || e != api.OK && (got != "" || at >= len(b)) {
			t.Errorf("%q is read as %q, %d, %d", s, got, at, e)
		}
		if _, e := char.Fault([]byte(got)); e != api.OK {
			t.Errorf("%q is read as %q", s, got)
		}
		if got2, at2, e2 := f(b); got2 != got || at2 != at || e2 != e {
			t.Errorf("%q is read otherwise the second time", s)
		}
	}
	if Text(s) != Text(s) || Quote(s) != Quote(s) || !bytes.Equal(b, []byte(s)) {
		t.Errorf("%q changed", s)
	}
}
