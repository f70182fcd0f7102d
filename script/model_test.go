package script

import (
	"encoding/hex"
	"fmt"
	"maps"
	"regexp"
	"slices"
	"strconv"
	"strings"
	"testing"

	"lectern/api"
	"lectern/audit"
	"lectern/base"
	"lectern/canon"
	"lectern/drum"
	"lectern/edit"
	"lectern/parse"
	"lectern/rig"
	"lectern/sample"
	"lectern/trail"
)

// pattern is what a line looks like whose words, but the first one, are written as w, and its TEXT as T.
func pattern(s string) *regexp.Regexp {
	one := `(?:[^ \\\n]|\\[0-9a-f]{2})`
	all := `(?:[^\\\n]|\\[0-9a-f]{2})`
	s = strings.NewReplacer(" w", " ("+one+"*)", " T", "(?: ("+all+"*))?").Replace(s)
	return regexp.MustCompile(`(?s)\A` + s + `\z`)
}

var patterns = []*regexp.Regexp{
	pattern("(new) w w"),
	pattern("(begin|commit|abort|check|names|audit|look)"),
	pattern("(put|pick) w T"),
	pattern("(drop|export) w"),
	pattern("(insert|replace|write|set) w w T"),
	pattern("(delete|unset) w w"),
	pattern("(crash|fuse) w"),
}

var (
	marks   = regexp.MustCompile(`\\..`)
	numbers = regexp.MustCompile(`\A(0|[1-9][0-9]{0,8})\z`)
	rows    = regexp.MustCompile(`\A(-|[01]+)\z`)
	special = regexp.MustCompile(`[^!-\[\]-~]`)
)

// unmarked is a word's bytes.
func unmarked(word string) string {
	return marks.ReplaceAllStringFunc(word, func(s string) string {
		b, _ := hex.DecodeString(s[1:])
		return string(b)
	})
}

// marked is a word of an answer.
func marked(word string) string {
	var out string
	for _, b := range []byte(word) {
		if s := string(rune(b)); special.MatchString(s) {
			out += `\` + hex.EncodeToString([]byte{b})
		} else {
			out += s
		}
	}
	return out
}

// model is a second console, which reads lines by patterns, and asks the calls of the chapter's table. It keeps the documents that parse and edit make of what it is told, too, as long as no power goes.
type model struct {
	drum   *drum.Drum
	base   *base.Base
	frames int
	now    rig.Papers
	begun  rig.Papers
	cut    bool // the power went, or may have gone
}

// words is a line's words; nothing, if it is none.
func words(line string) []string {
	for _, p := range patterns {
		if l := p.FindStringSubmatch(line); l != nil {
			for i := range l[2:] {
				l[i+2] = unmarked(l[i+2])
			}
			return l[1:]
		}
	}
	return nil
}

// isRight says whether the words of a line are what they should be.
func isRight(w []string) bool {
	switch w[0] {
	case "new":
		return numbers.MatchString(w[1]) && numbers.MatchString(w[2])
	case "fuse":
		return numbers.MatchString(w[1])
	case "crash":
		return rows.MatchString(w[1])
	case "insert", "replace":
		_, ok := nodeOf(w[3])
		return ok && isTrail(w[2], false)
	case "delete", "write":
		return isTrail(w[2], false)
	case "set", "unset":
		return isTrail(w[2], true)
	}
	return true
}

func isTrail(s string, attr bool) bool {
	t, e := trail.Read(s)
	return e == api.OK && t.Attr == attr
}

// nodeOf is the node that a TEXT says.
func nodeOf(text string) (api.Node, bool) {
	d, _, e := parse.Parse([]byte("<r>" + text + "</r>"))
	if e != api.OK || len(d.Kids) != 1 || len(d.Kids[0].Kids) != 1 || d.Kids[0].Name.Local != "r" {
		return api.Node{}, false
	}
	return d.Kids[0].Kids[0], true
}

// do is a line's answer.
func (m *model) do(line string) string {
	if len(line) > 65536 || strings.Contains(line, "\n") {
		return "error line"
	}
	w := words(line)
	switch {
	case w == nil || !isRight(w):
		return "error line"
	case w[0] == "new":
		return m.renew(w)
	case m.base == nil:
		return "error base"
	}
	switch w[0] {
	case "begin", "commit", "abort", "check":
		return m.told(m.transact(w[0]))
	case "put", "drop":
		return m.put(w)
	case "insert", "replace", "delete", "write", "set", "unset":
		return m.edit(w)
	case "crash":
		m.now = m.begun
		m.cut = true
		var keep []bool
		for _, bit := range strings.Trim(w[1], "-") {
			keep = append(keep, bit == '1')
		}
		m.drum.Crash(keep)
		return m.open()
	case "fuse":
		n, _ := strconv.Atoi(w[1])
		m.cut = true
		return m.told(m.drum.Fuse(n))
	}
	return m.ask(w)
}

// told is an answer.
func (m *model) told(e api.Errno, words ...string) string {
	if e != api.OK {
		return fmt.Sprintf("error %d", int(e))
	}
	out := "ok"
	for _, w := range words {
		out += " " + marked(w)
	}
	return out
}

// toldAt is one with a place.
func (m *model) toldAt(at int, e api.Errno, words ...string) string {
	if e != api.OK {
		return fmt.Sprintf("error %d %d", int(e), at)
	}
	return m.told(e, words...)
}

func (m *model) renew(w []string) string {
	sectors, _ := strconv.Atoi(w[1])
	frames, _ := strconv.Atoi(w[2])
	*m = model{frames: frames, now: rig.Papers{}, begun: rig.Papers{}}
	var e api.Errno
	if m.drum, e = drum.New(sectors); e != api.OK {
		return m.told(e)
	}
	return m.open()
}

func (m *model) open() string {
	var e api.Errno
	m.base, e = base.Open(m.drum, m.frames)
	return m.told(e)
}

func (m *model) transact(what string) api.Errno {
	var e api.Errno
	switch what {
	case "begin":
		e = m.base.Begin()
	case "commit":
		e = m.base.Commit()
	case "abort":
		e = m.base.Abort()
	default:
		return m.base.Checkpoint()
	}
	switch {
	case e == api.OK && what == "commit":
		m.begun = m.now
	case !m.base.Busy():
		m.now = m.begun
	}
	m.now = maps.Clone(m.now)
	return e
}

// changed notes what a change was answered.
func (m *model) changed(e api.Errno, name string, make func() (api.Node, bool)) {
	if !m.base.Busy() {
		m.now = maps.Clone(m.begun)
		return
	}
	if e != api.OK {
		return
	}
	delete(m.now, name)
	if d, ok := make(); ok {
		m.now[name] = d
	}
}

func (m *model) put(w []string) string {
	if w[0] == "drop" {
		e := m.base.Drop(w[1])
		m.changed(e, w[1], func() (api.Node, bool) { return api.Node{}, false })
		return m.told(e)
	}
	at, e := m.base.Put(w[1], []byte(w[2]))
	m.changed(e, w[1], func() (api.Node, bool) {
		d, _, _ := parse.Parse([]byte(w[2]))
		return d, true
	})
	return m.toldAt(at, e)
}

func (m *model) edit(w []string) string {
	t, _ := trail.Read(w[2])
	x := edit.Edit{At: t.Steps}
	switch w[0] {
	case "insert":
		x.Op = edit.Insert
		x.Node, _ = nodeOf(w[3])
	case "replace":
		x.Op = edit.Replace
		x.Node, _ = nodeOf(w[3])
	case "delete":
		x.Op = edit.Delete
	case "write":
		x.Op, x.Text = edit.Write, w[3]
	case "set":
		x.Op, x.Name, x.Text = edit.Set, t.Name, w[3]
	case "unset":
		x.Op, x.Name = edit.Drop, t.Name
	}
	old := m.now[w[1]]
	e := m.base.Edit(w[1], x)
	m.changed(e, w[1], func() (api.Node, bool) {
		d, _ := edit.Apply(old, x)
		return d, true
	})
	return m.told(e)
}

func (m *model) ask(w []string) string {
	switch w[0] {
	case "names":
		l, e := m.base.Names()
		return m.told(e, l...)
	case "export":
		b, e := m.base.Export(w[1])
		return m.told(e, string(b))
	case "pick":
		l, at, e := m.base.Pick(w[1], w[2])
		var out []string
		for _, t := range l {
			s, _ := trail.Show(t)
			out = append(out, s)
		}
		return m.toldAt(at, e, out...)
	case "audit":
		r, e := audit.Run(m.base)
		return m.told(e, fmt.Sprint(r.Docs), fmt.Sprint(r.Nodes), fmt.Sprint(r.Pages))
	}
	s, e := audit.Look(m.drum)
	return m.told(e, fmt.Sprint(s.Gen), fmt.Sprint(s.Groups))
}

// lookPapers looks that a console tells of all documents that stand in a base whose power never went, and of no others.
func (m *model) lookPapers(t *testing.T, c *Console) {
	t.Helper()
	if m.base == nil || m.cut {
		return
	}
	names := slices.Sorted(maps.Keys(m.now))
	look(t, c, "names", m.told(api.OK, names...))
	for _, name := range names {
		b, _ := canon.Write(m.now[name])
		look(t, c, "export "+marked(name), m.told(api.OK, string(b)))
	}
}

// written is bytes as a word of a line; of a TEXT some blanks stand as they are.
func written(dice *sample.Dice, s string, blanks bool) string {
	var w strings.Builder
	for _, b := range []byte(s) {
		if b == '\n' || b == '\\' || b == ' ' && !blanks || dice.OneIn(30) {
			fmt.Fprintf(&w, `\%02x`, b)
		} else {
			w.WriteByte(b)
		}
	}
	return w.String()
}

// drawnNode is the text of some node.
func drawnNode(dice *sample.Dice) string {
	if dice.OneIn(2) {
		return dice.Of("t", "<y/>", "<z b='1'>u</z>", "<!--c d-->", "<?i w?>", "a b", "&lt;", " ", "<y", "", "<y/><y/>", "<y xmlns='u'>t<z/></y>")
	}
	l := dice.Document().Kids
	b, _ := canon.Write(sample.Doc(l[dice.Under(len(l))]))
	return strings.TrimSuffix(string(b), "\n")
}

// drawnTrail is mostly the trail of a node of d, or of an attribute.
func drawnTrail(dice *sample.Dice, d api.Node, attr bool) string {
	paths, names := rig.Addresses(d)
	t := trail.Trail{Steps: paths[dice.Under(len(paths))], Attr: attr != dice.OneIn(40)}
	if !t.Attr && dice.OneIn(3) {
		t.Steps = append(t.Steps, dice.Under(3))
	}
	if t.Attr {
		t.Name = api.Name{URI: dice.Of("", "u", "a b"), Local: dice.Of("b", "c")}
		if len(names) > 0 && dice.OneIn(2) {
			t.Name = names[dice.Under(len(names))]
		}
	}
	s, _ := trail.Show(t)
	if dice.OneIn(40) {
		s += dice.Of("/", "/0", "x", "0", "{", "")
	}
	return s
}

// drawnLine is a line, mostly one that is right.
func (m *model) drawnLine(dice *sample.Dice) string {
	first := dice.Of("begin", "begin", "begin", "commit", "commit", "abort", "check", "put", "put", "put", "drop", "insert", "insert", "insert", "replace", "replace", "delete", "write", "write", "set", "set", "set", "unset", "names", "export", "pick", "pick", "audit", "look")
	name := rig.DrawnName(dice)
	var old []string
	for n := range m.now {
		old = append(old, n)
	}
	slices.Sort(old)
	if first != "put" && len(old) > 0 && !dice.OneIn(15) {
		name = dice.Of(old...)
	} else if dice.OneIn(30) {
		name = dice.Of("", "1", "a b", "\\", "a:b", "\xff", "\n")
	}
	d := m.now[name]
	text := func(s string) string { return " " + written(dice, s, true) }
	word := func(s string) string { return " " + written(dice, s, false) }
	switch first {
	case "put":
		return first + word(name) + text(string(rig.DrawnText(dice)))
	case "drop", "export":
		return first + word(name)
	case "insert", "replace":
		return first + word(name) + word(drawnTrail(dice, d, false)) + text(drawnNode(dice))
	case "delete":
		return first + word(name) + word(drawnTrail(dice, d, false))
	case "write":
		return first + word(name) + word(drawnTrail(dice, d, false)) + text(dice.Text())
	case "set":
		return first + word(name) + word(drawnTrail(dice, d, true)) + text(dice.Text())
	case "unset":
		return first + word(name) + word(drawnTrail(dice, d, true))
	case "pick":
		return first + word(name) + text(dice.Of("//*", "/*", "//text()", "//node()", "//*/@*", "//a[@b]", "//a{u}", "/*/*[2]", "//comment()", "//b[@c='x y']", "//*[", "", "/a /b", "//*/@a{ <\"'&\t\n\r}", "//*[@a]/@a"))
	}
	return first
}

// spoilt is a line with some bytes that are others, come, or go.
func spoilt(dice *sample.Dice, line string) string {
	for range 1 + dice.Under(2) {
		at := dice.Under(len(line) + 1)
		to := min(len(line), at+dice.Under(3))
		line = line[:at] + dice.Of(" ", "  ", `\`, `\20`, `\5c`, `\0a`, "\n", "\x00", "\xff", "é", "/", "@", "0", "1", "a", "x", "", `\A0`, "<", "-") + line[to:]
	}
	return line
}

// TestP3: drawn lines are answered as the calls are that the chapter's table names for them, and documents stand as parse and edit make them; the power goes in some of the bases.
func TestP3(t *testing.T) {
	dice := sample.Dice(23)
	counts := map[string]int{}
	for round := range 60 {
		c, m := New(), &model{}
		for range 400 {
			line := m.drawnLine(&dice)
			switch {
			case m.base == nil && dice.OneIn(3), dice.OneIn(300):
				line = fmt.Sprint("new ", 250+dice.Under(dice.Under(1500)+1), " ", 7+dice.Under(90))
			case round%2 == 1 && dice.OneIn(30):
				line = fmt.Sprint("fuse ", dice.Under(60))
			case round%2 == 1 && (dice.OneIn(100) || m.base != nil && m.drum.Down()):
				line = "crash " + dice.Of("-", "0", "1", "01", "1101", strings.Repeat("1", 500))
			case dice.OneIn(12):
				line = spoilt(&dice, line)
			}
			want := m.do(line)
			look(t, c, line, want)
			note(counts, line, want)
			if dice.OneIn(8) {
				m.lookPapers(t, c)
			}
		}
	}
	for _, x := range []string{
		"new ok", "new error", "begin ok", "begin error", "commit ok", "commit error", "abort ok", "check ok", "check error", "put ok", "put error", "drop ok", "drop error", "insert ok", "insert error", "replace ok", "replace error", "delete ok", "delete error", "write ok", "write error", "set ok", "set error", "unset ok", "unset error",
		"names ok", "names error", "export ok", "export error", "pick ok", "pick error", "audit ok", "audit error", "look ok", "look error", "crash ok", "fuse ok", "error line", "error base", "put error 5", "put error 4", "commit error 9", "put error 24",
	} {
		if counts[x] < 3 {
			t.Errorf("%s came %d times", x, counts[x])
		}
	}
}

// note counts an answer in the ways in which tests ask for it.
func note(counts map[string]int, line, answer string) {
	first, _, _ := strings.Cut(line, " ")
	l := append(strings.SplitN(answer, " ", 3), "")
	counts[first+" "+l[0]]++
	counts[first+" "+l[0]+" "+l[1]]++
	counts[l[0]+" "+l[1]]++
}

// TestP1Drawn: rows of any bytes, and spoilt lines, are answered, and as the patterns say.
func TestP1Drawn(t *testing.T) {
	dice := sample.Dice(231)
	c, m := New(), &model{}
	counts := map[string]int{}
	for i := range 60000 {
		if i%1000 == 0 {
			c, m = New(), &model{}
		}
		line := dice.Of(right()...)
		switch dice.Under(6) {
		case 0:
			line = dice.Of(wrong()...)
		case 1:
			var w strings.Builder
			for range dice.Under(12) {
				w.WriteString(dice.Of("put", "new", "begin", "crash", "fuse", " ", " ", " ", "a", "/0", "/@b", "1", "0", "400", "20", "-", `\`, `\41`, "<y/>", "t", "\x00", "\xff", "\n"))
			}
			line = w.String()
		case 2, 3:
			line = spoilt(&dice, line)
		}
		if dice.OneIn(3) {
			line = dice.Of("new 400 20", "begin", "begin", "begin", "put a <x b='1'>t</x>", "put a <x><y/></x>", "set a /0/@b t", "unset a /0/@b", "write a /0/0 u", "delete a /0/0")
		}
		want := m.do(line)
		look(t, c, line, want)
		note(counts, line, want)
	}
	for _, x := range []string{"error line", "error base", "put ok", "insert ok", "replace ok", "set ok", "write ok", "unset ok", "delete ok", "crash ok", "fuse ok"} {
		if counts[x] < 20 {
			t.Errorf("%s came %d times", x, counts[x])
		}
	}
}

// TestP23_2: two consoles that are told the same answer the same, line by line, or in one text.
func TestP23_2(t *testing.T) {
	dice := sample.Dice(232)
	for range 12 {
		a, b, c, m := New(), New(), New(), &model{}
		var text, want strings.Builder
		for range 250 {
			line := m.drawnLine(&dice)
			switch {
			case m.base == nil:
				line = fmt.Sprint("new ", 300+dice.Under(500), " ", 20+dice.Under(50))
			case m.drum.Down() || dice.OneIn(50):
				line = dice.Of("crash 10", "crash -", "crash 111111111")
			case dice.OneIn(40):
				line = fmt.Sprint("fuse ", dice.Under(90))
			case dice.OneIn(20):
				line = strings.ReplaceAll(spoilt(&dice, line), "\n", "")
			}
			text.WriteString(line + "\n" + dice.Of("", "", "", "\n", "\n\n"))
			if line != "" {
				answer := m.do(line)
				look(t, a, line, answer)
				want.WriteString(answer + "\n")
			}
		}
		lookRun(t, b, text.String(), want.String())
		lookRun(t, c, text.String()[:1], "")
		lookRun(t, c, text.String(), want.String())
		for _, line := range []string{"names", "audit", "look", "commit"} {
			answer := a.Do(line)
			look(t, b, line, answer)
			look(t, c, line, answer)
		}
	}
}
