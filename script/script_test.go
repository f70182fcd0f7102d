package script

import (
	"fmt"
	"strings"
	"testing"

	"lectern/api"
	"lectern/drum"
)

// brief is how something is told that may be very long.
func brief(s string) string {
	if len(s) > 300 {
		return fmt.Sprintf("%.300q.. (%d bytes)", s, len(s))
	}
	return fmt.Sprintf("%q", s)
}

// look looks what is answered: lines and answers by turns.
func look(t *testing.T, c *Console, turns ...string) {
	t.Helper()
	for i := 0; i+1 < len(turns); i += 2 {
		if got := c.Do(turns[i]); got != turns[i+1] {
			t.Fatalf("P23.1: Do(%s): %s, not %s", brief(turns[i]), brief(got), brief(turns[i+1]))
		}
	}
}

// lookAll looks that all of some lines have one answer.
func lookAll(t *testing.T, c *Console, want string, lines ...string) {
	t.Helper()
	for _, line := range lines {
		look(t, c, line, want)
	}
}

func lookRun(t *testing.T, c *Console, text, want string) {
	t.Helper()
	if got := c.Run(text); got != want {
		t.Fatalf("P23.1: Run(%s): %s, not %s", brief(text), brief(got), brief(want))
	}
}

// begun is a console whose base has the document <x><y/>t</x> under a, in the transaction that put it.
func begun(t *testing.T) *Console {
	t.Helper()
	c := New()
	look(t, c, "new 400 20", "ok", "begin", "ok", "put a <x><y/>t</x>", "ok")
	return c
}

// right is lines that are right, one of each form, and some that stand at its edges.
func right() []string {
	return []string{
		"begin", "commit", "abort", "check", "names", "audit", "look",
		"put a <x/>", "put a ", "put a", "put  ", "put ", `put \41 \3c`,
		"drop a", "drop ",
		"insert a /0/0 <y/>", "insert a / t", "insert  /  ", `insert a /0 \3cy/>`, "insert a /0 a b", "insert a /0  ", "insert a /0 <!--c-->", "insert a /0 <?i?>",
		"replace a /0 <y/>", "replace a /0 &#65;", "replace a /0 <p:y xmlns:p='u'/>", "replace a /0 <![CDATA[<]]>t",
		"delete a /0", "delete a /", `delete a \2f\30`,
		"write a /0 t", "write a /0 ", "write a /0", "write a /999999999 <",
		"set a /0/@b t", "set a /@b ", "set a /0/@b{u}", `set a /0/@b{u\20v} t`,
		"unset a /0/@b", "unset a /@b{u}",
		"export a", "export ",
		"pick a //y", "pick a ", "pick a", "pick  [", "pick a //y[@b='a b']",
		"crash -", "crash 0", "crash 1", `crash \2d`, "crash " + strings.Repeat("10", 1000),
		"fuse 0", "fuse 9", "fuse 10", "fuse 999999999", `fuse \31`,
	}
}

// wrong is lines that are none.
func wrong() []string {
	l := []string{"", " ", "  ", "x", "Begin", "begi", "begins", "\tbegin", "begin\t", `\62egin`, `beg\69n`, "begin\x00", "begin\r", " begin", "\xff", `\`, `\20`}
	for _, first := range []string{"begin", "commit", "abort", "check", "names", "audit", "look"} {
		l = append(l, first+" ", first+" a", first+"  ", first+` \`)
	}
	for _, number := range []string{"", "-1", "+1", "01", "00", "1000000000", "0000000001", "99999999999999999999", "1.0", "1e3", "0x1", "1_0", "a", "١", `\`, `\3`, `1\00`, "1\r"} {
		l = append(l, "fuse "+number, "new "+number+" 20", "new 400 "+number)
	}
	for _, bits := range []string{"", "--", "-0", "0-", "2", "01a", "0 1", "- ", "1 ", `\`, "1\x00", "+", "true"} {
		l = append(l, "crash "+bits)
	}
	for _, trail := range []string{"", "0", "/0/", "//0", "/01", "/-1", "/1000000000", "/0/@", "/0/@1", "/0/@b{}", "/0/@b{u", "/@b/0", "/0/@b:c", "/" + strings.Repeat("0/", 64) + "0", `/\`, `/0\`, `/\a`, `/\0A`, "/0/@b{\x00}", "/0/@b{\xff}", "/0 /1"} {
		l = append(l, "delete a "+trail, "unset a "+trail)
	}
	for _, at := range []string{"/0/@b", "/@b", "/0/@b{u}"} {
		l = append(l, "insert a "+at+" <y/>", "replace a "+at+" <y/>", "delete a "+at, "write a "+at+" t")
	}
	for _, at := range []string{"/", "/0", "/0/0"} {
		l = append(l, "set a "+at+" t", "unset a "+at)
	}
	for _, node := range []string{"", "<y>", "</y>", "<y/><z/>", "t<z/>", "<y/> ", "&", "&x;", "<p:y/>", "</r><r>", "</r><!--c--><r>t", "</r>", "t</r><!--", "<!DOCTYPE y>", "<?xml version='1.0'?>", "<![CDATA[]]>", "]]>", "\x00", "\xff", "<y/>\x01", `\`, `t\`, `t\0`, `t\0g`, `t\0A`, `t\A0`, `\ 0`} {
		l = append(l, "insert a /0 "+node, "replace a /0 "+node)
	}
	for _, word := range []string{`\`, `a\`, `a\0`, `a\0g`, `a\0G`, `a\4A`, `a\x41`, `a\\`, `a\n`, `\2 0`} {
		l = append(l, "put "+word+" <x/>", "put a "+word, "drop "+word, "export "+word, "pick "+word+" /x", "pick a "+word, "write a /0 "+word, "set a /0/@b "+word, "write "+word+" /0 t")
	}
	return append(l,
		"new", "new ", "new 400", "new 400 ", "new  400 20", "new 400  20", "new 400 20 ", "new 400 20 1", "put", "drop", "drop a ", "drop a b",
		"insert", "insert a", "insert a ", "insert a /0", "replace", "replace a", "replace a /0", "delete", "delete a", "delete a ", "delete a /0 ", "delete a /0 t",
		"write", "write a", "write a ", "set", "set a", "unset", "unset a", "unset a /0/@b ", "unset a /0/@b t", "export", "export a ", "export a b", "pick", "crash", "crash - ", "fuse", "fuse 1 1", "fuse 1 ",
		"begin\n", "\nbegin", "put a <x>\n</x>", "\n", "put a <x/>\nbegin")
}

// TestP1: a console that comes of no New, and a nil one.
func TestP1(t *testing.T) {
	var none *Console
	for _, line := range append(wrong(), right()...) {
		look(t, none, line, noLine)
		(&Console{}).Do(line)
		(&Console{}).Run(line)
	}
	look(t, none, "new 400 20", noLine)
	lookRun(t, none, "", "")
	lookRun(t, none, "new 400 20\n\nx\nbegin\n", "error line\nerror line\nerror line\n")
}

// TestP23_1Example is that of the chapter.
func TestP23_1Example(t *testing.T) {
	look(t, New(), "new 400 20", "ok", "begin", "ok", "put a <x><y/></x>", "ok", "insert a /0/1 t", "ok",
		"export a", `ok <x><y></y>t</x>\0a`, "pick a //y", "ok /0/0", "put a <x>", "error 26 3", "crash -", "ok", "names", "ok")
}

// TestP23_1Wrong: what is no line is none with a base, too, and in a transaction, and does nothing.
func TestP23_1Wrong(t *testing.T) {
	c, d := New(), begun(t)
	for _, line := range wrong() {
		lookAll(t, c, noLine, line)
		look(t, d, line, noLine, "export a", `ok <x><y></y>t</x>\0a`)
	}
	look(t, c, "names", noBase)
	look(t, d, "commit", "ok", "names", "ok a", "audit", "ok 1 4 3")
}

// TestP23_1NoBase: error base is asked behind error line; of all but new.
func TestP23_1NoBase(t *testing.T) {
	c := New()
	lookAll(t, c, noBase, right()...)
	look(t, c, "new 400 20", "ok")
	for _, line := range right() {
		if got := c.Do(line); got == noLine || got == noBase {
			t.Errorf("P23.1: Do(%s) with a base: %s", brief(line), got)
		}
	}
}

// TestP23_1Refused: where new or crash is refused there is no base any more.
func TestP23_1Refused(t *testing.T) {
	for _, words := range []string{"0 20", "16385 20", "999999999 20", "255 20", "1 20", "400 7", "400 1025", "400 0", "0 0"} {
		c := begun(t)
		look(t, c, "commit", "ok", "new "+words, "error 1", "names", noBase, "crash -", noBase, "fuse 0", noBase, "look", noBase)
		look(t, c, "new 256 8", "ok", "names", "ok", "new 16384 1024", "ok", "names", "ok")
	}
	c := begun(t)
	for n := range c.drum.Sectors() {
		if e := c.drum.Write(n, []byte("noise")); e != api.OK {
			t.Fatal(e)
		}
	}
	look(t, c, "crash "+strings.Repeat("1", c.drum.Loose()), "error 11", "names", noBase, "crash -", noBase, "new 400 20", "ok", "names", "ok")
}

// TestP23_1Frames: a crash opens the base with the frames that new was told.
func TestP23_1Frames(t *testing.T) {
	wide := "put a <x>" + strings.Repeat("<y/>t", 300) + "</x>"
	for _, x := range []struct{ frames, want string }{{"8", "error 5 0"}, {"100", "ok"}} {
		c := New()
		look(t, c, "new 2000 "+x.frames, "ok")
		for range 3 {
			look(t, c, "begin", "ok", wide, x.want, "crash -", "ok")
		}
	}
}

// TestP23_1Places: the errors of put and pick have a place behind them, no others have.
func TestP23_1Places(t *testing.T) {
	c := begun(t)
	look(t, c,
		"put a <x>", "error 26 3", "put a", "error 30 0", "put a ", "error 30 0", "put a  ", "error 30 1", "put 1 <x>", "error 24 0", "put  <x/>", "error 24 0", "put a <!DOCTYPE x><x/>", "error 25 0", `put a <x>\00</x>`, "error 21 3", `put a <x>\ff</x>`, "error 20 3",
		"pick a /y[", "error 36 3", "pick a", "error 36 0", "pick a ", "error 36 0", "pick a /x /y", "error 36 2", "pick b /x", "error 7 0", "pick 1 [", "error 24 0", "pick a "+strings.Repeat("/x", 21), "error 5 0",
		"drop b", "error 7", "drop ", "error 24", "export b", "error 7", "export 1", "error 24", `export a\20b`, "error 24",
		"insert a /0/3 <z/>", "error 35", "insert a / <z/>", "error 35", "insert a /1 <z/>", "error 30", "insert b /0/0 t", "error 7", "insert a /0/2 u", "error 32",
		"replace a /0 t", "error 33", "replace a /1 t", "error 35", "delete a /0", "error 30", "delete a /", "error 35",
		"write a /0 t", "error 33", "write a /0/1", "error 32", "set a /0/1/@b t", "error 33", "set a /@b t", "error 35", "unset a /0/@b", "error 7", "set a /0/@xmlns t", "error 24",
		"begin", "error 3", "check", "error 3", "commit", "ok", "commit", "error 3", "abort", "error 3", "put a <x/>", "error 3 0", "put 1 <x", "error 3 0", "drop a", "error 3", "set a /0/@b t", "error 3",
		"export a", `ok <x><y></y>t</x>\0a`)
}

// TestP23_1Edits: each edit does what its Op does, at the trail, of what TEXT says.
func TestP23_1Edits(t *testing.T) {
	for _, x := range []struct{ line, want string }{
		{"insert a /0/0 u", `<x>u<y></y>t</x>\0a`},
		{"insert a /0/2 <z/>", `<x><y></y>t<z></z></x>\0a`},
		{"insert a /0/0/0 <z b='1'>a b</z>", `<x><y><z\20b="1">a\20b</z></y>t</x>\0a`},
		{"insert a /0/0  ", `<x>\20<y></y>t</x>\0a`},
		{"insert a /0/0  u ", `<x>\20u\20<y></y>t</x>\0a`},
		{"insert a /0 <!--c d-->", `<!--c\20d-->\0a<x><y></y>t</x>\0a`},
		{"insert a /1 <?i w?>", `<x><y></y>t</x>\0a<?i\20w?>\0a`},
		{"insert a /0/0 &lt;<![CDATA[&]]>", `<x>&lt;&amp;<y></y>t</x>\0a`},
		{`insert a /0/0 \3cz/\3e`, `<x><z></z><y></y>t</x>\0a`},
		{`insert a /0/0 \5c\c3\a9é`, `<x>\5c\c3\a9\c3\a9<y></y>t</x>\0a`},
		{`insert a /0/0 u\0dv\0d\0aw`, `<x>u\0av\0aw<y></y>t</x>\0a`},
		{"insert a /0/0 <r/>", `<x><r></r><y></y>t</x>\0a`},
		{"replace a /0 <z/>", `<z></z>\0a`},
		{"replace a /0/1 <z xmlns='u'/>", `<x\20xmlns:n1="u"><y></y><n1:z></n1:z></x>\0a`},
		{"replace a /0/0 <?i?>", `<x><?i?>t</x>\0a`},
		{"delete a /0/0", `<x>t</x>\0a`},
		{"write a /0/1 u v ", `<x><y></y>u\20v\20</x>\0a`},
		{`write a /0/1 \3c`, `<x><y></y>&lt;</x>\0a`},
		{"write a /0/1 <z/>", `<x><y></y>&lt;z/&gt;</x>\0a`},
		{"set a /0/@b", `<x\20b=""><y></y>t</x>\0a`},
		{"set a /0/@b ", `<x\20b=""><y></y>t</x>\0a`},
		{"set a /0/0/@b c d", `<x><y\20b="c\20d"></y>t</x>\0a`},
		{`set a /0/@b{u\20v} c`, `<x\20xmlns:n1="u\20v"\20n1:b="c"><y></y>t</x>\0a`},
	} {
		c := begun(t)
		look(t, c, x.line, "ok", "export a", "ok "+x.want, "commit", "ok", "crash -", "ok", "export a", "ok "+x.want)
	}
	c := begun(t)
	look(t, c, "set a /0/@b 1", "ok", "set a /0/@b{u} 2", "ok", "unset a /0/@b", "ok", "export a", `ok <x\20xmlns:n1="u"\20n1:b="2"><y></y>t</x>\0a`, "unset a /0/@b", "error 7", "unset a /0/@b{u}", "ok", "export a", `ok <x><y></y>t</x>\0a`)
	look(t, c, "insert a /0/1 <!--c-->", "ok", "write a /0/1", "ok", "export a", `ok <x><y></y><!---->t</x>\0a`)
}

// TestP23_1Answers: names, counts and trails, as many as there are.
func TestP23_1Answers(t *testing.T) {
	c := New()
	look(t, c, "new 400 20", "ok", "names", "ok", "audit", "ok 0 0 3", "look", "ok 1 1", "check", "ok", "look", "ok 2 0", "begin", "ok", "names", "ok",
		"put b <x/>", "ok", "put é <x/>", "ok", "put a-1.x <x/>", "ok", `put \41 <x/>`, "ok", "names", `ok A a-1.x b \c3\a9`, "audit", "ok 4 8 3",
		"drop b", "ok", "names", `ok A a-1.x \c3\a9`, `drop \c3\a9`, "ok", "names", "ok A a-1.x", "look", "ok 2 0", "commit", "ok", "look", "ok 2 1", "audit", "ok 2 4 3",
		"begin", "ok", "abort", "ok", "look", "ok 2 1", "crash -", "ok", "look", "ok 3 0", "names", "ok A a-1.x")
	look(t, c, "begin", "ok", "put p <x b='1' c='a b'><y xmlns='u v' b='2'/><y/>t</x>", "ok",
		"pick p //*", "ok /0 /0/0 /0/1", "pick p //z", "ok", "pick p //*/@*", `ok /0/@b /0/@c /0/0/@b`, "pick p //*/@b", "ok /0/@b /0/0/@b", "pick p /x[@c='a b']", "ok /0", `pick p //y{u\20v}`, "ok /0/0", "pick p //y{u v}", "ok /0/0", `pick p /x\5b1\5d/text()`, "ok /0/2")
	look(t, c, "set p /0/@d{u v} 3", noLine, `set p /0/@d{u\20v} 3`, "ok", `pick p //x/@d{u v}`, `ok /0/@d{u\20v}`, `set p /0/@d{\c3\a9\5c\20} 4`, "ok", `pick p /x/@*`, `ok /0/@b /0/@c /0/@d{u\20v} /0/@d{\c3\a9\5c\20}`)
}

// TestP23_1Spelling: all bytes, as a word of a line may stand for them, and as answers write them.
func TestP23_1Spelling(t *testing.T) {
	for n := range 256 {
		b := byte(n)
		spelt := fmt.Sprintf(`\%02x`, b)
		want := spelt
		if b > 32 && b < 127 && b != '\\' {
			want = string([]byte{b})
		}
		if got := answer(api.OK, string([]byte{b}), "a"+string([]byte{b, b})); got != "ok "+want+" a"+want+want {
			t.Errorf("P23.1: the byte %d is written so: %s", n, got)
		}
		if got, ok := unspell("x" + spelt + spelt + "0"); !ok || got != string([]byte{'x', b, b, '0'}) {
			t.Errorf("P23.1: %s stands for %q, %v", spelt, got, ok)
		}
		if got, ok := unspell(want); !ok || got != string([]byte{b}) {
			t.Errorf("P23.1: %s stands for %q, %v", want, got, ok)
		}
		if b != '\\' {
			if got, ok := unspell(string([]byte{'a', b})); !ok || got != string([]byte{'a', b}) {
				t.Errorf("P23.1: the byte %d stands for %q, %v", n, got, ok)
			}
		}
		_, ok := unspell(string([]byte{'\\', '0', b}))
		if _, other := unspell(string([]byte{'\\', b, '0'})); ok != strings.Contains("0123456789abcdef", string(rune(b))) || other != ok {
			t.Errorf("P23.1: the byte %d behind a \\: %v, %v", n, ok, other)
		}
	}
	if got := answer(api.OK); got != "ok" {
		t.Errorf("P23.1: an answer without words: %s", got)
	}
	if got := answer(api.OK, "", ""); got != "ok  " {
		t.Errorf("P23.1: an answer of two empty words: %q", got)
	}
	for e := api.ErrArg; e <= api.ErrFigure; e++ {
		if got, want := answer(e, "a"), fmt.Sprintf("error %d", e); got != want {
			t.Errorf("P23.1: %s, not %s", got, want)
		}
	}
}

// TestP23_1Bytes: any byte of a word is taken as it stands, or as it is spelt, but the blank.
func TestP23_1Bytes(t *testing.T) {
	c := begun(t)
	for n := range 256 {
		raw, spelt := string([]byte{byte(n)}), fmt.Sprintf(`\%02x`, n)
		look(t, c, "put a <x/>", "ok")
		got, same := c.Do("set a /0/@b{u} v"+raw+"w"), c.Do("set a /0/@b{u} v"+spelt+"w")
		switch {
		case raw == "\n" || raw == `\`:
			same, got = got, noLine
		case n >= 128, n < 32 && raw != "\t" && raw != "\r":
			same, got = got+same, "error 21error 21"
		default:
			same, got = got+same, "okok"
		}
		if got != same {
			t.Errorf("P23.1: the byte %d in a TEXT: %s, not %s", n, same, got)
		}
	}
	look(t, c, `set a /0/@b{u} \0a\20\5c\09\0d`, "ok", "export a", `ok <x\20xmlns:n1="u"\20n1:b="&#10;\20\5c&#9;&#13;"></x>\0a`)
	look(t, c, `put\20a <x/>`, noLine, `put a\20<x/>`, "error 24 0", `p\75t a <x/>`, noLine)
}

// TestP23_1Long: a line may have MaxDoc bytes, and no more.
func TestP23_1Long(t *testing.T) {
	c := New()
	look(t, c, "new 16384 1024", "ok", "begin", "ok")
	head, row, tail := "put a <x>", "<y>"+strings.Repeat("t", 8000)+"</y>", "</x>"
	for strings.HasPrefix(head, "put") && len(head)+len(row)+len(tail) < api.MaxDoc {
		head += row
	}
	pad := api.MaxDoc - len(head) - len(tail) - len("<z></z>")
	line := head + "<z>" + strings.Repeat("u", pad) + "</z>" + tail
	look(t, c, line+" ", noLine, line+`\20`, noLine, "names", "ok", line, "ok", "names", "ok a")
	longest := "names" + strings.Repeat(" ", api.MaxDoc-5)
	look(t, c, longest, noLine, longest+" ", noLine)
	look(t, c, "crash "+strings.Repeat("0", api.MaxDoc-6), "ok", "crash "+strings.Repeat("0", api.MaxDoc-5), noLine)
	look(t, c, "pick a "+strings.Repeat("/", api.MaxDoc-7), "error 36 2", "pick a "+strings.Repeat("/", api.MaxDoc-6), noLine)
	look(t, New(), strings.Repeat("x", api.MaxDoc+1), noLine, strings.Repeat("x", 1<<20), noLine)
}

// TestP23_1Run: which lines a text has.
func TestP23_1Run(t *testing.T) {
	for _, x := range []struct{ text, want string }{
		{"", ""},
		{"\n", ""},
		{"\n\n\n", ""},
		{"names\n", "error base\n"},
		{"names\nx\n", "error base\nerror line\n"},
		{"\n\nnames\n\n\nx\n\n", "error base\nerror line\n"},
		{"x\r\nnames\r\n", "error line\nerror line\n"},
		{" \n", "error line\n"},
		{"\x00\n\xff\n", "error line\nerror line\n"},
		{strings.Repeat("y", api.MaxDoc) + "\n" + strings.Repeat("y", api.MaxDoc+1) + "\n", "error line\nerror line\n"},
		{strings.Repeat("names\n", 20000), strings.Repeat("error base\n", 20000)},
		// what stands behind the last byte 10 is no line
		{"names", ""},
		{"names\nnew 400 20", "error base\n"},
		{"\nnames", ""},
	} {
		lookRun(t, New(), x.text, x.want)
	}
	c := New()
	lookRun(t, c, "new 400 20\n\nbegin\nput a <x>a b</x>\nexport a\nput b <\ncommit\nnames\n", "ok\nok\nok\nok <x>a\\20b</x>\\0a\nerror 23 0\nok\nok a\n")
	look(t, c, "names", "ok a")
	lookRun(t, c, "crash -\nbegin\ndrop a\nnames", "ok\nok\nok\n")
	lookRun(t, c, "names\ncrash -\nnames\n", "ok\nok\nok a\n")
}

// TestP23_1New: consoles know nothing of each other.
func TestP23_1New(t *testing.T) {
	a, b := New(), New()
	look(t, a, "new 400 20", "ok", "begin", "ok", "put a <x/>", "ok")
	look(t, b, "names", noBase, "new 400 20", "ok", "names", "ok")
	look(t, a, "names", "ok a", "new 400 20", "ok", "names", "ok", "commit", "error 3")
}

// TestP23_1Crash: of the Writes that aren't flushed those stand whose bit is 1.
func TestP23_1Crash(t *testing.T) {
	counts := map[string]int{}
	for fuse := range 40 {
		for _, pattern := range []string{"-", "0", "1", "01", "0111", "10", "1011", strings.Repeat("1", 99), `\31\30`} {
			c := begun(t)
			look(t, c, "commit", "ok", "begin", "ok", "put a <z/>", "ok", fmt.Sprint("fuse ", fuse), "ok")
			commit := c.Do("commit")
			twin := c.drum.Clone()
			var keep []bool
			for _, bit := range strings.NewReplacer(`\31`, "1", `\30`, "0", "-", "").Replace(pattern) {
				keep = append(keep, bit == '1')
			}
			if e := twin.Crash(keep); e != api.OK {
				t.Fatal(e)
			}
			d := &Console{}
			d.open(twin, 20)
			look(t, c, "crash "+pattern, "ok", "look", d.Do("look"), "export a", d.Do("export a"))
			lookSame(t, c.drum, twin)
			counts[commit+" "+c.Do("export a")]++
		}
	}
	for _, x := range []string{`ok ok <z></z>\0a`, `error 9 ok <z></z>\0a`, `error 9 ok <x><y></y>t</x>\0a`} {
		if counts[x] < 5 {
			t.Errorf("P23.1: %s came %d times", x, counts[x])
		}
	}
}

// lookSame looks that the same stands on two drums.
func lookSame(t *testing.T, a, b *drum.Drum) {
	t.Helper()
	for n := range a.Sectors() {
		p, e := a.Read(n)
		q, f := b.Read(n)
		if string(p) != string(q) || e != f {
			t.Fatalf("P23.1: sector %d: %q, %d, not %q, %d", n, p, e, q, f)
		}
	}
}

// TestP23_1Down: behind a fuse all that needs the drum is error 9, till the crash.
func TestP23_1Down(t *testing.T) {
	c := begun(t)
	look(t, c, "commit", "ok", "fuse 2", "ok", "fuse 0", "ok", "look", "error 9", "begin", "ok", "put a <z/>", "ok", "commit", "error 9",
		"begin", "error 9", "commit", "error 9", "abort", "error 9", "check", "error 9", "put a <z/>", "error 3 0", "drop a", "error 3", "names", "error 9", "export a", "error 9", "pick a /x", "error 9 0", "pick a [", "error 36 0", "audit", "error 9", "fuse 5", "ok", "look", "error 9",
		"names x", noLine, "crash -", "ok", "names", "ok a", "export a", `ok <x><y></y>t</x>\0a`, "look", "ok 2 0")
}
