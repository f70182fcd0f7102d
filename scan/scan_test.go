package scan

import (
	"bytes"
	"reflect"
	"strings"
	"testing"

	"lectern/api"
)

type wanted struct {
	s string
	l []Token
}

func lookRight(t *testing.T, cases []wanted) {
	t.Helper()
	for _, c := range cases {
		l, at, e := All([]byte(c.s))
		if at != 0 || e != api.OK || len(l) != len(c.l) || len(l) > 0 && !reflect.DeepEqual(l, c.l) {
			t.Errorf("All(%.100q) = %+v, %d, %d, not %+v", c.s, l, at, e, c.l)
		}
	}
}

// lookFault looks for an error, with and without the mark that isn't of the text.
func lookFault(t *testing.T, s string, at int, want api.Errno) {
	t.Helper()
	for _, ahead := range []string{"", "\xef\xbb\xbf"} {
		l, n, e := All([]byte(ahead + s))
		if len(l) != 0 || n != at || e != want {
			t.Errorf("All(%.120q) = %+v, %d, %d, not %d, %d", ahead+s, l, n, e, at, want)
		}
	}
}

// lookFaults looks for the error of a token, wherever it stands and whatever stands behind it.
func lookFaults(t *testing.T, want api.Errno, tokens ...string) {
	t.Helper()
	for _, s := range tokens {
		lookFault(t, s, 0, want)
		lookFault(t, "<a>é</a><!--c-->"+s, 17, want)
		lookFault(t, "<é b='1'/>\r\n"+s+"<", 12, want)
	}
}

// lookWhole looks for the error of a token behind which a right one stands.
func lookWhole(t *testing.T, want api.Errno, tokens ...string) {
	t.Helper()
	lookFaults(t, want, tokens...)
	for _, s := range tokens {
		lookFault(t, s+"<a/>", 0, want)
		lookFault(t, s+" x", 0, want)
	}
}

func TestKinds(t *testing.T) {
	for i, k := range []int{Decl, Open, Close, Lone, Text, Data, Comment, Instr} {
		if k != i+1 {
			t.Errorf("kind %d is %d", i+1, k)
		}
	}
}

func TestP3_1Examples(t *testing.T) {
	lookRight(t, []wanted{
		{"<a b='1'/>", []Token{{Kind: Lone, Name: "a", Pairs: []Pair{{"b", "1"}}}}},
		{"<a>x&amp;y</a>", []Token{
			{Kind: Open, Name: "a"},
			{Kind: Text, At: 3, Text: "x&y", Refs: 1},
			{Kind: Close, At: 10, Name: "a"},
		}},
		{`<?xml version="1.0" encoding="utf-8"?>`, []Token{{Kind: Decl, Pairs: []Pair{{"version", "1.0"}, {"encoding", "utf-8"}}}}},
	})
	lookFault(t, "<a b='1'b='2'>", 0, api.ErrSyntax)
	lookFault(t, "<a b='1' b='2'>", 0, api.ErrTwice)
	lookFault(t, "<a:>", 0, api.ErrName)
	lookFault(t, "<1>", 0, api.ErrSyntax)
	lookFault(t, "<!DOCTYPE a>", 0, api.ErrUnsupported)
	lookFault(t, `<?xml version="1.0" encoding="latin1"?>`, 0, api.ErrUnsupported)
	lookFault(t, "<?xml?>", 0, api.ErrReserved)
}

func TestP3_1Empty(t *testing.T) {
	lookRight(t, []wanted{{"", nil}, {"\xef\xbb\xbf", nil}})
	if l, at, e := All(nil); len(l) != 0 || at != 0 || e != api.OK {
		t.Errorf("All(nil) = %+v, %d, %d", l, at, e)
	}
}

func TestP3_1Long(t *testing.T) {
	lookRight(t, []wanted{
		{strings.Repeat("x", 65536), []Token{{Kind: Text, Text: strings.Repeat("x", 65536)}}},
		{strings.Repeat("\r\n", 32768), []Token{{Kind: Text, Text: strings.Repeat("\n", 32768)}}},
		{"\xef\xbb\xbf" + strings.Repeat("x", 65533), []Token{{Kind: Text, Text: strings.Repeat("x", 65533)}}},
	})
	for _, s := range []string{
		strings.Repeat("x", 65537),
		strings.Repeat("\r\n", 32768) + "x",
		"\xef\xbb\xbf" + strings.Repeat("x", 65534),
		"<\xff" + strings.Repeat("\x00", 65535),
	} {
		if l, at, e := All([]byte(s)); len(l) != 0 || at != 0 || e != api.ErrLong {
			t.Errorf("All of %d bytes = %.3v, %d, %d", len(s), l, at, e)
		}
	}
}

func TestP3_1Chars(t *testing.T) {
	for _, c := range []struct {
		s  string
		at int
		e  api.Errno
	}{
		{"a\x00", 1, api.ErrChar},
		{"<1>\x00", 3, api.ErrChar},
		{"<1>\xff", 3, api.ErrUTF8},
		{"<!DOCTYPE a>\r\n\r\n\xff", 14, api.ErrUTF8},
		{"<a b='\ufffe'", 6, api.ErrChar},
		{"<a/><!--\xed\xa0\x80-->", 8, api.ErrUTF8},
		{"\xfe\xff", 0, api.ErrUTF8},
		{"&;\xc3", 2, api.ErrUTF8},
	} {
		lookFault(t, c.s, c.at, c.e)
	}
	lookFault(t, "\xef\xbb", 0, api.ErrUTF8)
}

func TestP3_1Mark(t *testing.T) {
	const mark = "\xef\xbb\xbf"
	lookRight(t, []wanted{
		{mark + "<a/>", []Token{{Kind: Lone, Name: "a"}}},
		{mark + mark + "<a/>", []Token{{Kind: Text, Text: mark}, {Kind: Lone, At: 3, Name: "a"}}},
		{"<a/>" + mark, []Token{{Kind: Lone, Name: "a"}, {Kind: Text, At: 4, Text: mark}}},
		{mark + "<?xml version='1.0'?>x", []Token{{Kind: Decl, Pairs: []Pair{{"version", "1.0"}}}, {Kind: Text, At: 21, Text: "x"}}},
	})
	if l, at, e := All([]byte(mark + mark + "<?xml version='1.0'?>")); len(l) != 0 || at != 3 || e != api.ErrReserved {
		t.Errorf("a declaration behind two marks: %+v, %d, %d", l, at, e)
	}
}

func TestP3_1DeclarationRight(t *testing.T) {
	one := func(l ...Pair) []Token { return []Token{{Kind: Decl, Pairs: l}} }
	v := Pair{"version", "1.0"}
	lookRight(t, []wanted{
		{"<?xml version='1.0'?>", one(v)},
		{"<?xml\tversion\n=\r\n\"1.0\" \t\r?>", one(v)},
		{"<?xml\rversion=\"1.0\"?>", one(v)},
		{"<?xml version='1.1'?>", one(Pair{"version", "1.1"})},
		{"<?xml version='1.0123456789'?>", one(Pair{"version", "1.0123456789"})},
		{"<?xml version='1.0' encoding='UTF-8'?>", one(v, Pair{"encoding", "UTF-8"})},
		{"<?xml version='1.0'\tencoding = \"uTf-8\"\n?>", one(v, Pair{"encoding", "uTf-8"})},
		{"<?xml version='1.0' standalone='yes'?>", one(v, Pair{"standalone", "yes"})},
		{"<?xml version='1.0' standalone\n=\n\"no\" ?>", one(v, Pair{"standalone", "no"})},
		{"<?xml version='1.0' encoding='Utf-8' standalone='no'?>", one(v, Pair{"encoding", "Utf-8"}, Pair{"standalone", "no"})},
		{"<?xml version='1.0'?><?xml-a?>", append(one(v), Token{Kind: Instr, At: 21, Name: "xml-a"})},
	})
}

func TestP3_1DeclarationSyntax(t *testing.T) {
	for _, s := range []string{
		"<?xml ", "<?xml ?>", "<?xml\n?>", "<?xml x?>", "<?xml version?>", "<?xml version=?>", "<?xml version=1.0?>", "<?xml version='1.0'", "<?xml version='1.0'?",
		"<?xml version='1.0' ?", "<?xml version='1.0'>", "<?xml version='1.0'/>", "<?xml version='1.0' ? >", "<?xml version='1.0\"?>", "<?xml version='1.0?>", "<?xml version=\"1.0'?>",
		"<?xml version=''?>", "<?xml version='1'?>", "<?xml version='1.'?>", "<?xml version='2.0'?>", "<?xml version='11.0'?>", "<?xml version='1.0a'?>", "<?xml version='1.a'?>", "<?xml version='1. 0'?>",
		"<?xml version=' 1.0'?>", "<?xml version='1.0 '?>", "<?xml version='1.٣'?>", "<?xml version='1,0'?>", "<?xml version='&#49;.0'?>", "<?xml version='-1.0'?>", "<?xml version='1.-0'?>",
		"<?xml Version='1.0'?>", "<?xml versions='1.0'?>", "<?xml xversion='1.0'?>", "<?xml a:version='1.0'?>", "<?xml encoding='UTF-8'?>", "<?xml standalone='yes'?>", "<?xml encoding='UTF-8' version='1.0'?>",
		"<?xml version='1.0'encoding='UTF-8'?>", "<?xml version='1.0' encoding='UTF-8'standalone='yes'?>", "<?xml version='1.0'standalone='yes'?>", "<?xml version='1.0' standalone='yes' encoding='UTF-8'?>",
		"<?xml version='1.0' version='1.0'?>", "<?xml version='1.0' encoding='UTF-8' encoding='UTF-8'?>", "<?xml version='1.0' standalone='no' standalone='no'?>", "<?xml version='1.0' x='1'?>", "<?xml version='1.0' x?>",
		"<?xml version='1.0' encoding='UTF-8' x='1'?>", "<?xml version='1.0' standalone='no' x='1'?>", "<?xml version='1.0' Encoding='UTF-8'?>", "<?xml version='1.0' encoding?>", "<?xml version='1.0' encoding=?>", "<?xml version='1.0' encoding=UTF-8?>",
		"<?xml version='1.0' encoding=''?>", "<?xml version='1.0' encoding='8'?>", "<?xml version='1.0' encoding='-a'?>", "<?xml version='1.0' encoding='_a'?>", "<?xml version='1.0' encoding='.a'?>", "<?xml version='1.0' encoding='UTF 8'?>",
		"<?xml version='1.0' encoding=' UTF-8'?>", "<?xml version='1.0' encoding='UTF-8 '?>", "<?xml version='1.0' encoding='é'?>", "<?xml version='1.0' encoding='aé'?>", "<?xml version='1.0' encoding='a:b'?>", "<?xml version='1.0' encoding='UTF-8\"?>", "<?xml version='1.0' encoding='UTF-8?>",
		"<?xml version='1.0' encoding='a@'?>", "<?xml version='1.0' encoding='a['?>", "<?xml version='1.0' encoding='a`'?>", "<?xml version='1.0' encoding='a{'?>", "<?xml version='1.0' encoding='a/'?>", "<?xml version='1.0' encoding='@'?>", "<?xml version='1.0' encoding='['?>", "<?xml version='1.0' encoding='a,b'?>",
		"<?xml version='1.0' standalone='maybe'?>", "<?xml version='1.0' standalone=''?>", "<?xml version='1.0' standalone='Yes'?>", "<?xml version='1.0' standalone='NO'?>", "<?xml version='1.0' standalone='yes '?>", "<?xml version='1.0' standalone=yes?>", "<?xml version='1.0' standalone='yes\"?>",
		"<?xml version='1.0' encoding='latin1' standalone='x'?>", "<?xml version='1.0' encoding='latin1'", "<?xml version='1.0' encoding='latin1'>", "<?xml version='1.0' encoding='latin1' x?>", "<?xml version='1.0' encoding='UTF-8' ? >", "<?xml version='1.0' encoding = 'UTF-8' standalone = 'no' >",
	} {
		lookFault(t, s, 0, api.ErrSyntax)
		lookFault(t, s+"<a/>", 0, api.ErrSyntax)
	}
}

func TestP3_1DeclarationUnsupported(t *testing.T) {
	for _, s := range []string{"latin1", "UTF-16", "utf8", "UTF_8", "UTF-8-", "U", "utf-", "ISO-8859-1", "x.y_z-9", "US-ASCII", "z", "Z", "A", "a"} {
		lookFault(t, "<?xml version='1.0' encoding='"+s+"'?>", 0, api.ErrUnsupported)
		lookFault(t, "<?xml version=\"1.7\" encoding\n= \""+s+"\" standalone='yes' ?><1>", 0, api.ErrUnsupported)
	}
}

func TestP3_1DeclarationElsewhere(t *testing.T) {
	for _, s := range []string{" ", "\n", "x", "<a/>", "<!---->", "<?a?>", "<?xml version='1.0'?>"} {
		lookFault(t, s+"<?xml version='1.0'?>", len(s), api.ErrReserved)
		lookFault(t, s+"<?xml ", len(s), api.ErrReserved)
	}
	lookFault(t, "<?XML version='1.0'?>", 0, api.ErrReserved)
	lookFault(t, "<?xml", 0, api.ErrReserved)
	lookFault(t, "<?xml?><1>", 0, api.ErrReserved)
	lookFault(t, "<?xml/version='1.0'?>", 0, api.ErrReserved)
	lookFault(t, "<?xml:a version='1.0'?>", 0, api.ErrName)
}

func TestP3_1Comment(t *testing.T) {
	one := func(s string) []Token { return []Token{{Kind: Comment, Text: s}} }
	lookRight(t, []wanted{
		{"<!---->", one("")},
		{"<!--a-->", one("a")},
		{"<!-- - -a->b- -->", one(" - -a->b- ")},
		{"<!---a-->", one("-a")},
		{"<!-->-->", one(">")},
		{"<!--->-->", one("->")},
		{"<!--<a>&x;]]>?><!-\r\n\r-->", one("<a>&x;]]>?><!-\n\n")},
		{"<!--a--><!--b-->", []Token{{Kind: Comment, Text: "a"}, {Kind: Comment, At: 8, Text: "b"}}},
		{"<!--\u4e00-->x", []Token{{Kind: Comment, Text: "\u4e00"}, {Kind: Text, At: 10, Text: "x"}}},
	})
	lookFaults(t, api.ErrSyntax, "<!--", "<!--a", "<!-->", "<!--->", "<!--a-", "<!--a--", "<!--a->", "<!-- -- >")
	lookWhole(t, api.ErrSyntax, "<!--a--b-->", "<!--a--->", "<!----->", "<!-----", "<!--a-- >", "<!-- -- -->", "<!--a--\n-->")
}

func TestP3_1Data(t *testing.T) {
	one := func(s string) []Token { return []Token{{Kind: Data, Text: s}} }
	lookRight(t, []wanted{
		{"<![CDATA[]]>", one("")},
		{"<![CDATA[<]]>", one("<")},
		{"<![CDATA[&amp;&x;<!--]>]] ]]]>", one("&amp;&x;<!--]>]] ]")},
		{"<![CDATA[<![CDATA[]]>", one("<![CDATA[")},
		{"<![CDATA[\r\n\t\ré]]>", one("\n\t\né")},
		{"<![CDATA[a]]>&gt;", []Token{{Kind: Data, Text: "a"}, {Kind: Text, At: 13, Text: ">", Refs: 1}}},
	})
	lookFaults(t, api.ErrSyntax, "<![CDATA[", "<![CDATA[a&amp;<b>]]", "<![CDATA[]>", "<![CDATA[]] >", "<![CDATA[a")
}

func TestP3_1OtherMarks(t *testing.T) {
	lookWhole(t, api.ErrUnsupported, "<!DOCTYPE", "<!DOCTYPE a>", "<!DOCTYPEa", "<!DOCTYPE a [<!ENTITY b 'c'>]>", "<!DOCTYPE\n")
	lookWhole(t, api.ErrSyntax, "<!", "<!>", "<!-", "<!-a-->", "<!a>", "<!doctype a>", "<!DOCTYP a>", "<! DOCTYPE a>", "<!ELEMENT a ANY>",
		"<![", "<![CDATA", "<![CDATA]]>", "<![cdata[]]>", "<! [CDATA[]]>", "<![CDATA []]>", "<!&;", "<! -- -->")
}

func TestP3_1InstructionRight(t *testing.T) {
	one := func(name, s string) []Token { return []Token{{Kind: Instr, Name: name, Text: s}} }
	lookRight(t, []wanted{
		{"<?a?>", one("a", "")},
		{"<?a ?>", one("a", "")},
		{"<?a \t\r\n\r?>", one("a", "")},
		{"<?a b?>", one("a", "b")},
		{"<?a \n b c ?>", one("a", "b c ")},
		{"<?a ??>", one("a", "?")},
		{"<?a ? >b>?>", one("a", "? >b>")},
		{"<?a <b>&x;--]]>\r\n?>", one("a", "<b>&x;--]]>\n")},
		{"<?é-1 \u00a0x?>", one("é-1", "\u00a0x")},
		{"<?xmls?>", one("xmls", "")},
		{"<?xml-stylesheet a='1'?>", one("xml-stylesheet", "a='1'")},
		{"<?xm?>", one("xm", "")},
		{"<?_xml?>", one("_xml", "")},
		{"<?" + strings.Repeat("é", 50) + "?>", one(strings.Repeat("é", 50), "")},
		{"<?a?>?>", []Token{{Kind: Instr, Name: "a"}, {Kind: Text, At: 5, Text: "?>"}}},
		{" <?a b?>", []Token{{Kind: Text, Text: " "}, {Kind: Instr, At: 1, Name: "a", Text: "b"}}},
	})
}

func TestP3_1InstructionFaults(t *testing.T) {
	lookFaults(t, api.ErrSyntax, "<?", "<?a", "<?a ", "<?a b", "<?a ?", "<?a?", "<?a b? >", "<?a >")
	lookWhole(t, api.ErrSyntax, "<??>", "<? ?>", "<? a?>", "<?1?>", "<?-a?>", "<?.?>", "<?\u0300a?>", "<?a?b?>", "<?a/?>", "<?a&?>", "<?a>?>", "<?a??>", "<?a<?>", "<?a\u00a0?>", "<?a\u2028?>", "<?=a?>")
	lookWhole(t, api.ErrName, "<?a:b?>", "<?:?>", "<?:a?>", "<?a:?>", "<?a:b", "<?xml:a?>", "<?a:xml?>", "<?:xml", "<?a:b/", "<?a::b", "<?"+strings.Repeat("a", 101)+"?>", "<?"+strings.Repeat("é", 50)+"a")
	lookWhole(t, api.ErrReserved, "<?xml?>", "<?XML?>", "<?xMl?>", "<?Xml a?>", "<?xmL", "<?XML ", "<?xml/", "<?XmL?", "<?xml&?>", "<?xML\u00a0")
}

func TestP3_1Closing(t *testing.T) {
	lookRight(t, []wanted{
		{"</a>", []Token{{Kind: Close, Name: "a"}}},
		{"</p:a \t\r\n>", []Token{{Kind: Close, Name: "p:a"}}},
		{"</xml></xmlns:é->", []Token{{Kind: Close, Name: "xml"}, {Kind: Close, At: 6, Name: "xmlns:é-"}}},
		{"</a>>", []Token{{Kind: Close, Name: "a"}, {Kind: Text, At: 4, Text: ">"}}},
		{"</" + longest() + ">", []Token{{Kind: Close, Name: longest()}}},
	})
	lookFaults(t, api.ErrSyntax, "</", "</a", "</a ", "</a:b\n")
	lookWhole(t, api.ErrSyntax, "</>", "</ >", "</ a>", "</1>", "</-a>", "</\u0300>", "</a/>", "</a b>", "</a b='1'>", "</a<", "</a\u00a0>", "</a&>", "<//a>", "</!>", "</1:a>", "</a =>")
	lookWhole(t, api.ErrName, "</a:>", "</:a>", "</:>", "</a:b:c>", "</a::b>", "</a:1>", "</a:-", "</a: ", "</a:/", "</"+longest()+"a>", "</"+strings.Repeat("a", 101)+">", "</"+strings.Repeat("a", 101)+":a>")
}

// longest is a qualified name as long as one may be.
func longest() string { return strings.Repeat("a", 100) + ":" + strings.Repeat("é", 50) }

func TestP3_1OpeningRight(t *testing.T) {
	lookRight(t, []wanted{
		{"<a>", []Token{{Kind: Open, Name: "a"}}},
		{"<a >", []Token{{Kind: Open, Name: "a"}}},
		{"<a\t\r\n/>", []Token{{Kind: Lone, Name: "a"}}},
		{"<a/>>", []Token{{Kind: Lone, Name: "a"}, {Kind: Text, At: 4, Text: ">"}}},
		{"<xml/><xmlns:a>", []Token{{Kind: Lone, Name: "xml"}, {Kind: Open, At: 6, Name: "xmlns:a"}}},
		{"<é·:_.->", []Token{{Kind: Open, Name: "é·:_.-"}}},
		{"<" + longest() + " " + longest() + "=''>", []Token{{Kind: Open, Name: longest(), Pairs: []Pair{{longest(), ""}}}}},
		{"<a b='1' c=\"2\">", []Token{{Kind: Open, Name: "a", Pairs: []Pair{{"b", "1"}, {"c", "2"}}}}},
		{"<a\nz = '1'\r\n\ty\n=\r\"2\" />", []Token{{Kind: Lone, Name: "a", Pairs: []Pair{{"z", "1"}, {"y", "2"}}}}},
		{"<a b=''/>", []Token{{Kind: Lone, Name: "a", Pairs: []Pair{{"b", ""}}}}},
		{"<a b='\"' c=\"'\" d='>' e='/>' f=']]>'>", []Token{{Kind: Open, Name: "a", Pairs: []Pair{{"b", "\""}, {"c", "'"}, {"d", ">"}, {"e", "/>"}, {"f", "]]>"}}}}},
		{"<a b='&lt;&#x41;&amp;&apos;&quot;&#39;'/>", []Token{{Kind: Lone, Name: "a", Pairs: []Pair{{"b", "<A&'\"'"}}}}},
		{"<a b='\t\n\r\n\r &#9;&#10;&#13;'/>", []Token{{Kind: Lone, Name: "a", Pairs: []Pair{{"b", "     \t\n\r"}}}}},
		{"<a a='1' a:a='2' a:b='3' b:a='4' A='5'/>", []Token{{Kind: Lone, Name: "a", Pairs: []Pair{{"a", "1"}, {"a:a", "2"}, {"a:b", "3"}, {"b:a", "4"}, {"A", "5"}}}}},
		{"<a xmlns='u' xmlns:p='v' xml:lang='w'>", []Token{{Kind: Open, Name: "a", Pairs: []Pair{{"xmlns", "u"}, {"xmlns:p", "v"}, {"xml:lang", "w"}}}}},
		{"<a b='1'><a b='2'>", []Token{{Kind: Open, Name: "a", Pairs: []Pair{{"b", "1"}}}, {Kind: Open, At: 9, Name: "a", Pairs: []Pair{{"b", "2"}}}}},
	})
}

func TestP3_1OpeningNames(t *testing.T) {
	lookFaults(t, api.ErrSyntax, "<", "<a", "<a ", "<a:b\t")
	lookWhole(t, api.ErrSyntax, "< ", "<>", "< a>", "<1>", "<-a>", "<.a>", "<·>", "<\u0300a>", "<1:a>", "<=>", "<&>", "<a<", "<a/", "<a/ >", "<a / >", "<a//>", "<a&>", "<a!>", "<a\u00a0>", "<a=>", "<a='1'>", "<\"a\">")
	lookWhole(t, api.ErrName, "<:>", "<:a>", "<a:>", "<a:b:c>", "<a::b>", "<a:1>", "<a:-b>", "<a:", "<a: ", "<a:/>", "<a:b:", "<"+longest()+"a>", "<"+strings.Repeat("é", 51)+"/>", "<a:"+strings.Repeat("a", 101)+">")
}

func TestP3_1Pairs(t *testing.T) {
	lookFaults(t, api.ErrSyntax, "<a b", "<a b ", "<a b=", "<a b= ", "<a b='1'", "<a b='1' ", "<a b='", "<a b=\"1'>", "<a b='1\">", "<a b='&x;>", "<a b='1' b='&x;>", "<a b='1' b='<")
	lookWhole(t, api.ErrSyntax, "<a b>", "<a b/>", "<a b=>", "<a b=1>", "<a b=1'>", "<a b='1'c='2'>", "<a b='1'b='1'>", "<a b='1'\u00a0c='2'>", "<a b c='1'>", "<a b='1' c>", "<a b='1' c=>", "<a b='1' b>", "<a b='1' b=>",
		"<a 1='1'>", "<a -b='1'>", "<a ='1'>", "<a '1'>", "<a b=='1'>", "<a b='1''>", "<a b='1'/", "<a b='1' / >", "<a b='1' <", "<a <b>", "<a b<='1'>", "<a b='<'>", "<a b='1<2&x;'>", "<a b='1' b='<'>", "<a b='1' 1 c:='1'>", "<a b &='1'>", "<a b=&'1'>", "<a b!='1'>")
	lookWhole(t, api.ErrName, "<a b:>", "<a b:='1'>", "<a :b='1'>", "<a :='1'>", "<a b:c:d='1'>", "<a b::c='1'>", "<a b:1='1'>", "<a b:", "<a b: ", "<a b:=", "<a b:='<'>", "<a c='1' b:='&x;'>", "<a b='1' c:", "<a "+longest()+"a=''>", "<a "+strings.Repeat("a", 101)+"=''>")
	lookWhole(t, api.ErrRef, "<a b='&'>", "<a b='&x;'>", "<a b='&lt'>", "<a b='&x;<'>", "<a b='1' b='&x;'>", "<a b='&x;'c='1'>", "<a b='&x;' c:='1'>", "<a b=\"&amp\"", "<a b='&&lt;'/")
	lookWhole(t, api.ErrChar, "<a b='&#0;'>", "<a b='&#xfffe;&x;'>", "<a b='&#xd800;<'>", "<a b='1' b='&#8;'>")
	lookWhole(t, api.ErrTwice, "<a b='1' b='2'>", "<a b='1' b='1'/>", "<a b='1' c='1' b='1'>", "<a p:b='1' p:b='2'", "<a b='1' b='2'b='3'>", "<a b='1' b='2' 1>", "<a b='1' b='2' c:>", "<a b='1' b='2' c='<'>", "<a b='1' b='2' b", "<a xmlns='' xmlns=''>", "<a a='' a=''/")
}

func TestP3_1ManyPairs(t *testing.T) {
	var s strings.Builder
	want := Token{Kind: Lone, Name: "a"}
	s.WriteString("<a")
	for i := range 400 {
		name := "b" + strings.Repeat("c", i%20) + strings.Repeat("d", i/20)
		s.WriteString(" " + name + "='" + name + "'")
		want.Pairs = append(want.Pairs, Pair{name, name})
	}
	lookRight(t, []wanted{{s.String() + "/>", []Token{want}}})
	for _, p := range want.Pairs {
		lookFault(t, s.String()+" "+p.Name+"=''", 0, api.ErrTwice)
	}
}

func TestP3_1TextRight(t *testing.T) {
	one := func(s string, refs int) []Token { return []Token{{Kind: Text, Text: s, Refs: refs}} }
	lookRight(t, []wanted{
		{"x", one("x", 0)},
		{" \t\r\n\r", one(" \t\n\n", 0)},
		{"&#32;", one(" ", 1)},
		{"&amp;amp;", one("&amp;", 1)},
		{"&#38;#38;&lt;&gt;", one("&#38;<>", 3)},
		{"a&#13;&#xA;b&apos;&quot;", one("a\r\nb'\"", 4)},
		{"/>?>-->]]", one("/>?>-->]]", 0)},
		{"]]&gt;]>é\U0001f600\"'", one("]]>]>é\U0001f600\"'", 1)},
		{"x<a/>y&lt;</a>z", []Token{
			{Kind: Text, Text: "x"},
			{Kind: Lone, At: 1, Name: "a"},
			{Kind: Text, At: 5, Text: "y<", Refs: 1},
			{Kind: Close, At: 10, Name: "a"},
			{Kind: Text, At: 14, Text: "z"},
		}},
	})
}

func TestP3_1TextFaults(t *testing.T) {
	lookFault(t, "é]]>", 0, api.ErrSyntax)
	for _, c := range []struct {
		s string
		e api.Errno
	}{
		{"]]>", api.ErrSyntax}, {"x]]>&x;", api.ErrSyntax}, {"]]]>", api.ErrSyntax}, {"&lt;]]>", api.ErrSyntax},
		{"&", api.ErrRef}, {"x & y", api.ErrRef}, {"&x;]]>", api.ErrRef}, {"&nbsp;", api.ErrRef}, {"&lt", api.ErrRef}, {"&#;", api.ErrRef}, {"&amp;&", api.ErrRef},
		{"&#0;", api.ErrChar}, {"&#xffff;&", api.ErrChar}, {"xyz&#x110000;", api.ErrChar},
	} {
		lookFault(t, c.s, 0, c.e)
		lookFault(t, c.s+"<a/>", 0, c.e)
		lookFault(t, c.s+"<1>", 0, c.e)
		lookFault(t, "<a>"+c.s, 3, c.e)
		lookFault(t, "<?xml version='1.0'?><!--c-->"+c.s+"<", 29, c.e)
		lookFault(t, "<![CDATA[é]]>"+c.s+"</a>", 14, c.e)
	}
	lookFault(t, "x&lt<", 0, api.ErrRef)
	lookFault(t, "]]<>", 2, api.ErrSyntax)
}

// TestP3_1First: of several tokens that aren't right the first one is told.
func TestP3_1First(t *testing.T) {
	lookFault(t, "<a/>\r\n<b:>&x;<1>", 5, api.ErrName)
	lookFault(t, "<a/>&x;<b:>", 4, api.ErrRef)
	lookFault(t, "é<a b='1' b='1'/></:>", 2, api.ErrTwice)
	lookFault(t, "<a><b></c><!DOCTYPE a><?xml?>", 10, api.ErrUnsupported)
}

func TestP3_2Plain(t *testing.T) {
	for _, c := range []struct{ b, want string }{
		{"", ""},
		{"a", "a"},
		{"\xef\xbb\xbf", ""},
		{"\xef\xbb\xbfa\xef\xbb\xbf", "a\xef\xbb\xbf"},
		{"\xef\xbb\xbf\xef\xbb\xbf", "\xef\xbb\xbf"},
		{"\xef\xbb", "\xef\xbb"},
		{"\xbb\xbf", "\xbb\xbf"},
		{"\xef\xbb\xbf\r\n\ra\r", "\n\na\n"},
		{"\r\xef\xbb\xbf\n", "\n\xef\xbb\xbf\n"},
		{"\xff\x00<\r\r\n\n&", "\xff\x00<\n\n\n&"},
		{strings.Repeat("\r\n", 70000), strings.Repeat("\n", 70000)},
	} {
		if got := Plain([]byte(c.b)); string(got) != c.want {
			t.Errorf("Plain(%.60q) = %.60q", c.b, got)
		}
	}
	if len(Plain(nil)) != 0 {
		t.Error("Plain(nil) isn't empty")
	}
}

func TestP3_2PlainMemory(t *testing.T) {
	for _, s := range []string{"\xef\xbb\xbfab", "ab", "a\r\nb", ""} {
		room := append([]byte(s), "spare"...)
		before := bytes.Clone(room)
		got := Plain(room[:len(s)])
		want := string(got)
		got = got[:cap(got)]
		for i := range got {
			got[i] = 'x'
		}
		if !bytes.Equal(room, before) {
			t.Errorf("Plain(%q) makes %q of its argument, or answers its memory", s, room)
		}
		if again := Plain(room[:len(s)]); string(again) != want {
			t.Errorf("Plain(%q) = %q the second time", s, again)
		}
	}
}
