package scan

import (
	"bytes"
	"reflect"
	"regexp"
	"strings"
	"testing"

	"lectern/api"
	"lectern/char"
	"lectern/refer"
)

// The model says what the chapter says, by regular expressions.

const (
	startSet = `A-Z_a-z\x{c0}-\x{d6}\x{d8}-\x{f6}\x{f8}-\x{2ff}\x{370}-\x{37d}\x{37f}-\x{1fff}\x{200c}-\x{200d}\x{2070}-\x{218f}\x{2c00}-\x{2fef}\x{3001}-\x{d7ff}\x{f900}-\x{fdcf}\x{fdf0}-\x{fffd}\x{10000}-\x{effff}`
	partSet  = startSet + `\-.0-9\x{b7}\x{300}-\x{36f}\x{203f}-\x{2040}`
	ws       = `[ \t\n\r]`
	eq       = ws + `*=` + ws + `*`
)

func quotedAs(inner string) string { return `(?:'(` + inner + `)'|"(` + inner + `)")` }

var (
	reWritten  = regexp.MustCompile(`^[` + partSet + `:]*`)
	reBegun    = regexp.MustCompile(`^[` + startSet + `:]`)
	reName     = regexp.MustCompile(`^[` + startSet + `][` + partSet + `]*$`)
	reDeclares = regexp.MustCompile(`^<\?xml` + ws)
	reDecl     = regexp.MustCompile(`^<\?xml` + ws + `+version` + eq + quotedAs(`1\.[0-9]+`) +
		`(?:` + ws + `+encoding` + eq + quotedAs(`[A-Za-z][A-Za-z0-9._\-]*`) + `)?` +
		`(?:` + ws + `+standalone` + eq + quotedAs(`yes|no`) + `)?` + ws + `*\?>`)
	reComment  = regexp.MustCompile(`(?s)^<!--((?:[^-]|-[^-])*)-->`)
	reData     = regexp.MustCompile(`(?s)^<!\[CDATA\[(.*?)\]\]>`)
	reInstr    = regexp.MustCompile(`(?s)^(?:` + ws + `+(.*?))?\?>`)
	reCloseEnd = regexp.MustCompile(`^` + ws + `*>`)
	reTagEnd   = regexp.MustCompile(`^` + ws + `*(/?)>`)
	reGap      = regexp.MustCompile(`^` + ws + `+`)
	reValue    = regexp.MustCompile(`^` + eq + `(?:'([^']*)'|"([^"]*)")`)
	reChars    = regexp.MustCompile(`^[^<]*`)
)

func modelName(s string) bool { return len(s) <= 100 && reName.MatchString(s) }

func modelQualified(s string) bool {
	p, l, ok := strings.Cut(s, ":")
	return modelName(p) && (!ok || modelName(l))
}

// modelWritten is the written name s begins with.
func modelWritten(s string, right func(string) bool) (string, api.Errno) {
	n := reWritten.FindString(s)
	switch {
	case !reBegun.MatchString(n):
		return "", api.ErrSyntax
	case !right(n):
		return "", api.ErrName
	}
	return n, api.OK
}

// modelToken is the token s begins with, but for its place, how long it is, and its error.
func modelToken(s string, first bool) (Token, int, api.Errno) {
	switch {
	case first && reDeclares.MatchString(s):
		return modelDecl(s)
	case strings.HasPrefix(s, "<!--"):
		return modelPlain(s, Comment, reComment)
	case strings.HasPrefix(s, "<![CDATA["):
		return modelPlain(s, Data, reData)
	case strings.HasPrefix(s, "<!DOCTYPE"):
		return Token{}, 0, api.ErrUnsupported
	case strings.HasPrefix(s, "<!"):
		return Token{}, 0, api.ErrSyntax
	case strings.HasPrefix(s, "<?"):
		return modelInstr(s)
	case strings.HasPrefix(s, "</"):
		n, e := modelWritten(s[2:], modelQualified)
		if e != api.OK {
			return Token{}, 0, e
		}
		if m := reCloseEnd.FindString(s[2+len(n):]); m != "" {
			return Token{Kind: Close, Name: n}, 2 + len(n) + len(m), api.OK
		}
		return Token{}, 0, api.ErrSyntax
	case strings.HasPrefix(s, "<"):
		return modelTag(s)
	}
	raw := reChars.FindString(s)
	text, _, e := refer.ReadText([]byte(raw))
	if e != api.OK {
		return Token{}, 0, e
	}
	return Token{Kind: Text, Text: text, Refs: strings.Count(raw, "&")}, len(raw), api.OK
}

func modelPlain(s string, kind int, re *regexp.Regexp) (Token, int, api.Errno) {
	m := re.FindStringSubmatch(s)
	if m == nil {
		return Token{}, 0, api.ErrSyntax
	}
	return Token{Kind: kind, Text: m[1]}, len(m[0]), api.OK
}

func modelDecl(s string) (Token, int, api.Errno) {
	m := reDecl.FindStringSubmatch(s)
	if m == nil {
		return Token{}, 0, api.ErrSyntax
	}
	t := Token{Kind: Decl}
	for i, n := range []string{"version", "encoding", "standalone"} {
		if v := m[2*i+1] + m[2*i+2]; v != "" {
			t.Pairs = append(t.Pairs, Pair{n, v})
		}
	}
	if e := strings.ToLower(m[3] + m[4]); e != "" && e != "utf-8" {
		return Token{}, 0, api.ErrUnsupported
	}
	return t, len(m[0]), api.OK
}

func modelInstr(s string) (Token, int, api.Errno) {
	n, e := modelWritten(s[2:], modelName)
	if e != api.OK {
		return Token{}, 0, e
	}
	if strings.ToLower(n) == "xml" {
		return Token{}, 0, api.ErrReserved
	}
	m := reInstr.FindStringSubmatch(s[2+len(n):])
	if m == nil {
		return Token{}, 0, api.ErrSyntax
	}
	return Token{Kind: Instr, Name: n, Text: m[1]}, 2 + len(n) + len(m[0]), api.OK
}

func modelTag(s string) (Token, int, api.Errno) {
	n, e := modelWritten(s[1:], modelQualified)
	if e != api.OK {
		return Token{}, 0, e
	}
	t := Token{Kind: Open, Name: n}
	for rest := s[1+len(n):]; ; {
		if m := reTagEnd.FindStringSubmatch(rest); m != nil {
			if m[1] != "" {
				t.Kind = Lone
			}
			return t, len(s) - len(rest) + len(m[0]), api.OK
		}
		gap := reGap.FindString(rest)
		if gap == "" {
			return Token{}, 0, api.ErrSyntax
		}
		rest = rest[len(gap):]
		p, size, e := modelPair(rest)
		if e != api.OK {
			return Token{}, 0, e
		}
		for _, q := range t.Pairs {
			if q.Name == p.Name {
				return Token{}, 0, api.ErrTwice
			}
		}
		t.Pairs = append(t.Pairs, p)
		rest = rest[size:]
	}
}

func modelPair(s string) (Pair, int, api.Errno) {
	n, e := modelWritten(s, modelQualified)
	if e != api.OK {
		return Pair{}, 0, e
	}
	m := reValue.FindStringSubmatch(s[len(n):])
	if m == nil {
		return Pair{}, 0, api.ErrSyntax
	}
	value, _, e := refer.ReadValue([]byte(m[1] + m[2]))
	return Pair{n, value}, len(n) + len(m[0]), e
}

func model(b []byte) ([]Token, int, api.Errno) {
	if len(b) > 65536 {
		return nil, 0, api.ErrLong
	}
	s := strings.TrimPrefix(string(b), "\xef\xbb\xbf")
	s = strings.ReplaceAll(strings.ReplaceAll(s, "\r\n", "\n"), "\r", "\n")
	if at, e := char.Fault([]byte(s)); e != api.OK {
		return nil, at, e
	}
	var l []Token
	for at := 0; at < len(s); {
		t, size, e := modelToken(s[at:], at == 0)
		if e != api.OK {
			return nil, at, e
		}
		t.At = at
		l = append(l, t)
		at += size
	}
	return l, 0, api.OK
}

func same(a, b []Token) bool { return len(a) == 0 && len(b) == 0 || reflect.DeepEqual(a, b) }

func lookModel(t *testing.T, s string) {
	t.Helper()
	l, at, e := All([]byte(s))
	wl, wat, we := model([]byte(s))
	if !same(l, wl) || at != wat || e != we {
		t.Fatalf("All(%q) = %+v, %d, %d, not %+v, %d, %d", s, l, at, e, wl, wat, we)
	}
}

// families are pieces of texts that are put together to tokens, right and wrong ones.
func families() [][]string {
	return [][]string{
		{"<", "</", "a", ":", " ", "b='1'", "b:", "='2'", "/>", ">", "1", "\""},
		{"<a", " ", "b", "=", "'", "\"", "&lt;", "&", "<", "/", ">"},
		{"<!--", "-", "--", ">", "-->", "a", "<", "\r\n"},
		{"<![CDATA[", "]", "]]", ">", "]]>", "<", "&", "<!"},
		{"<?", "xml", "a", ":", " ", "?", ">", "?>", "-"},
		{"<?xml", " version='1.0'", " encoding=\"UTF-8\"", " encoding='x'", " standalone = 'no'", " ", "?>", "x", "=", "\r"},
		{"\xef\xbb\xbf", "<a>", "</a>", "x", "&amp;", "]]", ">", "<b/>", "\r", "\n", "\xff", "<?xml version='1.0'?>"},
	}
}

func TestP3_1Model(t *testing.T) {
	for _, l := range families() {
		n := 0
		together(l, 4, "", func(s string) {
			n++
			lookModel(t, s)
			if n%3 == 0 {
				lookModel(t, "<e f='g'/>h"+s)
			}
		})
	}
}

// together yields each row of at most that many pieces, put together behind s.
func together(l []string, most int, s string, yield func(string)) {
	yield(s)
	if most == 0 {
		return
	}
	for _, p := range l {
		together(l, most-1, s+p, yield)
	}
}

// dice is a row of numbers that seem to be drawn, the same ones each time.
type dice uint64

func (d *dice) under(n int) int {
	*d = *d*6364136223846793005 + 1442695040888963407
	return int(uint64(*d)>>33) % n
}

// rightTokens are tokens that are right wherever they stand.
func rightTokens() []string {
	return []string{
		"<a>", "</a>", "<b:c/>", "<a b='1' c=\"2\">", "<é\tb = '&lt;'\n/>", "<!---->", "<!--a-b-->", "<![CDATA[<&]]>", "<?a?>", "<?a b?>", "<a xmlns='u' xmlns:p='v'/>", "x", "&amp;", " ", "\r\n", "]]", "&#x41;y",
	}
}

func TestP3_1ModelOfLongTexts(t *testing.T) {
	d := dice(1)
	tokens := rightTokens()
	faults := []string{"<", ">", "&", "'", "\"", "=", " ", "/", "?", "!", "-", ":", "]", "b", "1", "\r", "é", "\x00", "\xff"}
	for range 30000 {
		var s string
		for range d.under(12) {
			s += tokens[d.under(len(tokens))]
		}
		lookModel(t, s)
		at := d.under(len(s) + 1)
		lookModel(t, s[:at]+faults[d.under(len(faults))]+s[at:])
		lookModel(t, s[:at])
		lookModel(t, s[at:])
	}
}

// lookLonger looks whether what is told of s is told of it with more behind, too.
func lookLonger(t *testing.T, s, more string) {
	t.Helper()
	l, _, e := All([]byte(s))
	if e != api.OK || len(l) == 0 || l[len(l)-1].Kind == Text {
		return
	}
	size := len(Plain([]byte(s)))
	longer, at, e := All([]byte(s + more))
	if e != api.OK {
		if at < size {
			t.Fatalf("All(%q) = %+v; with %q behind: %d, %d", s, l, more, at, e)
		}
		return
	}
	if len(longer) < len(l) || !same(longer[:len(l)], l) || len(longer) > len(l) && longer[len(l)].At != size {
		t.Fatalf("All(%q) = %+v; with %q behind: %+v", s, l, more, longer)
	}
}

func TestP3_3(t *testing.T) {
	ends := []string{"", "x", "<a/>", ">", "-->", "]]>", "?>", "/>", "\n", "\r\n", "'", "<", "<1>", "<!DOCTYPE", "<?xml version='1.0'?>", "&", "é", "\xff", "\xef\xbb\xbf", "<a b='1'>x</a>"}
	for _, l := range families() {
		together(l, 3, "", func(s string) {
			for _, more := range ends {
				lookLonger(t, s, more)
			}
		})
	}
	d := dice(7)
	tokens := append(rightTokens(), ends...)
	for range 20000 {
		s := []string{"", "\xef\xbb\xbf", "<?xml version='1.0'?>", "\xef\xbb\xbf<?xml version='1.0'?>"}[d.under(4)]
		for range d.under(8) {
			s += rightTokens()[d.under(len(rightTokens()))]
		}
		lookLonger(t, s, tokens[d.under(len(tokens))]+tokens[d.under(len(tokens))])
	}
}

// TestP3_3Told: a text's token is another one in a longer text, any other stays.
func TestP3_3Told(t *testing.T) {
	const s = "<?xml version='1.0'?><a b='1'>x<!--c--><![CDATA[d]]><?e f?><g/></a>"
	l, _, e := All([]byte(s))
	if e != api.OK || len(l) != 8 {
		t.Fatalf("All(%q) = %+v, %d", s, l, e)
	}
	for i, k := range l {
		end := len(s)
		if i+1 < len(l) {
			end = l[i+1].At
		}
		told, _, e := All([]byte(s[:end]))
		if e != api.OK || !same(told, l[:i+1]) {
			t.Errorf("up to %d (%d): %+v, %d", end, k.Kind, told, e)
		}
	}
}

func TestP1Nothing(t *testing.T) {
	for _, b := range [][]byte{nil, {}} {
		if l, at, e := All(b); len(l) != 0 || at != 0 || e != api.OK {
			t.Errorf("All of nothing = %+v, %d, %d", l, at, e)
		}
		if len(Plain(b)) != 0 {
			t.Error("Plain of nothing")
		}
	}
}

// TestP1Bytes hands in all short rows of bytes that matter, and cut ones.
func TestP1Bytes(t *testing.T) {
	for a := range 256 {
		for b := range 256 {
			lookModel(t, string([]byte{byte(a), byte(b)}))
			lookModel(t, "<"+string([]byte{byte(a), byte(b)}))
			lookModel(t, "<a "+string([]byte{byte(a), byte(b)})+"='1'>")
			lookModel(t, "<?"+string([]byte{byte(a), byte(b)})+"?>")
		}
	}
	const s = "\xef\xbb\xbf<?xml version='1.0' encoding='UTF-8'?><é:a b='&lt;é'><!--é--><![CDATA[é]]>&#xe9;<?é é?></é:a >"
	for i := range len(s) + 1 {
		lookModel(t, s[:i])
		lookModel(t, s[i:])
	}
}

// TestP1Large ends, too, however many tokens and pairs there are.
func TestP1Large(t *testing.T) {
	for _, s := range []string{
		strings.Repeat("<", 65536), strings.Repeat("<a>", 21845), strings.Repeat("<a/>x", 13107), strings.Repeat("&lt;", 16384), strings.Repeat("<!---->", 9362),
		"<a" + strings.Repeat(" ", 65530) + "/>", "<!--" + strings.Repeat("-", 65532), "<![CDATA[" + strings.Repeat("]", 65527), "<" + strings.Repeat("a", 65535), "<?a" + strings.Repeat("?", 65533),
		"&#" + strings.Repeat("0", 65530) + "65;", "<a b='" + strings.Repeat("\t", 65528) + "'>",
	} {
		lookModel(t, s)
	}
	var s strings.Builder
	s.WriteString("<a")
	for i := 0; s.Len() < 65000; i++ {
		s.WriteString(" b" + string(rune('a'+i%26)) + string(rune('a'+i/26%26)) + string(rune('a'+i/676)) + "=''")
	}
	if l, at, e := All([]byte(s.String() + ">")); len(l) != 1 || len(l[0].Pairs) < 7000 || at != 0 || e != api.OK {
		t.Errorf("many pairs: %d, %d", at, e)
	}
}

func TestP1Memory(t *testing.T) {
	const s = "\xef\xbb\xbf<a b='1' c='2'>\r\nx</a><d e='3'/>"
	room := append([]byte(s), "<spare/>"...)
	before := bytes.Clone(room)
	l, _, e := All(room[:len(s)])
	again, _, _ := All(room[:len(s)])
	want, _, _ := model([]byte(s))
	if e != api.OK || !same(l, want) || !same(again, want) {
		t.Fatalf("All = %+v, %d", l, e)
	}
	for i := range room {
		room[i] = 'z'
	}
	if !same(l, want) {
		t.Errorf("the tokens hang on what was handed in: %+v", l)
	}
	copy(room, before)
	for _, k := range l[:cap(l)] {
		pairs := k.Pairs[:cap(k.Pairs)]
		for i := range pairs {
			pairs[i] = Pair{"w", "w"}
		}
	}
	for i := range l {
		l[i].Pairs = nil
		l[i].Name = "w"
	}
	if !same(again, want) || !bytes.Equal(room, before) {
		t.Errorf("two answers share memory: %+v", again)
	}
	if third, _, _ := All(room[:len(s)]); !same(third, want) {
		t.Errorf("All answers %+v the third time", third)
	}
}

// TestP1Lists writes into each list of an answer, its spare room too: no other list of the answer changes.
func TestP1Lists(t *testing.T) {
	const s = "<?xml version='1.0'?><a b='1'><a b='1' c='2' d='3'/><a b='1' c='2' d='3' e='4' f='5'>"
	for i := range 4 {
		l, _, _ := All([]byte(s))
		want, _, _ := All([]byte(s))
		_ = append(l[i].Pairs, Pair{"w", "w"}, Pair{"w", "w"}, Pair{"w", "w"})
		clear(l[i].Pairs)
		clear(want[i].Pairs)
		if !same(l, want) {
			t.Errorf("list %d shares memory: %+v", i, l)
		}
	}
}
