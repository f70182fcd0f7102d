package script

import (
	"fmt"
	"slices"
	"strings"
	"testing"
)

// TestExamples are those of the whole, in the order of DOC.md.
func TestExamples(t *testing.T) {
	c := New()
	look(t, c, "new 400 20", "ok", "begin", "ok",
		"put a <x b='1'/>", "ok", "export a", `ok <x\20b="1"></x>\0a`, `put b <x b="1"></x>`, "ok", "export b", `ok <x\20b="1"></x>\0a`,
		"put a <p:x xmlns:p='u'/>", "ok", "export a", `ok <n1:x\20xmlns:n1="u"></n1:x>\0a`,
		"put a <!DOCTYPE x><x/>", "error 25 0", "put a <x>", "error 26 3", "export a", `ok <n1:x\20xmlns:n1="u"></n1:x>\0a`,
		"put a <x><y/>t</x>", "ok", "pick a /x/text()", "ok /0/1", "pick a //y", "ok /0/0", "insert a /0/1 <z/>", "ok", "export a", `ok <x><y></y><z></z>t</x>\0a`,
		"insert a /0/2 u", "error 32", "put a "+strings.Repeat("<x>", 34)+strings.Repeat("</x>", 34), fmt.Sprint("error 31 ", 3*33),
		"commit", "ok", "begin", "ok", "put c <x/>", "ok", "crash -", "ok", "names", "ok a b",
		"begin", "ok", "put c <x/>", "ok", "commit", "ok", "crash -", "ok", "names", "ok a b c",
		"begin", "ok", "drop c", "ok", "commit", "ok", "check", "ok", "look", "ok 4 0", "crash -", "ok", "look", "ok 5 0", "names", "ok a b")
	base := c.base
	_, s := base.Shelf()
	doc, _ := base.Number("a")
	if l, e := s.Labels(doc); e != 0 || fmt.Sprint(l[3]) != "[1 2 1]" {
		t.Errorf("the label of what is inserted: %v, %d", l, e)
	}
}

// TestFull is the tenth example: on a small drum there is no room at last, and all that was committed stands.
func TestFull(t *testing.T) {
	for _, x := range []struct{ first, refused string }{{"new 256 100", "error 4 0"}, {"new 16384 9", "error 5 0"}} {
		c := New()
		look(t, c, x.first, "ok")
		names := ""
		for i := 0; ; i++ {
			name := fmt.Sprintf("n%03d", i)
			if i > 900 {
				t.Fatal("P6: there is no end")
			}
			look(t, c, "begin", "ok")
			size := 1 + i*50
			got := c.Do("put " + name + " <x>" + strings.Repeat("t", min(size, 8000)) + "</x>")
			if got == x.refused {
				break
			}
			if commit := c.Do("commit"); got != "ok" || commit != "ok" {
				t.Fatalf("P6: put: %s, commit: %s", got, commit)
			}
			names += " " + name
		}
		look(t, c, "commit", "error 3", "abort", "error 3", "names", "ok"+names, "crash -", "ok", "names", "ok"+names, "begin", "ok", "drop n000", "ok", "commit", "ok", "names", "ok"+names[5:])
	}
}

// acts is transactions, and what is told of all documents ahead of them and behind each.
func acts(t *testing.T) (lines [][]string, states []string) {
	t.Helper()
	lines = [][]string{
		{"begin", "put a <x><y/>t</x>", "put b <l>" + strings.Repeat("t", 900) + "</l>", "commit"},
		{"begin", "insert a /0/1 <z/>", "set a /0/@b 1", "drop b", "commit"},
		{"begin", "put c <!--c--><x/>", "write a /0/2 u", "abort"},
		{"check"},
		{"begin", "put c <!--c--><x/>", "write a /0/2 u", "unset a /0/@b", "audit", "commit"},
		{"begin", "delete a /0/0", "replace c /1 <w>" + strings.Repeat("<v/>", 30) + "</w>", "commit"},
		{"look"},
		{"begin", "drop a", "pick c //v", "commit"},
	}
	c := New()
	look(t, c, "new 400 20", "ok")
	states = []string{state(c)}
	for _, l := range lines {
		if got := strings.Fields(c.Run(strings.Join(l, "\n") + "\n")); slices.Contains(got, "error") {
			t.Fatalf("%q is answered %q", l, got)
		}
		states = append(states, state(c))
	}
	return lines, states
}

// state is what a console tells of all documents.
func state(c *Console) string {
	names := c.Do("names")
	s := names + "\n"
	for _, name := range strings.Fields(names)[1:] {
		s += c.Do("export "+name) + "\n"
	}
	return s
}

// cut does lines up to the first one that the power is gone for. It answers how many transactions were done, and whether the last line was a commit.
func cut(t *testing.T, c *Console, lines [][]string) (done int, commit bool) {
	t.Helper()
	for i, l := range lines {
		for _, line := range l {
			switch first, _, _ := strings.Cut(c.Do(line), " "); {
			case c.drum.Down():
				return i, line == "commit"
			case first != "ok":
				t.Fatalf("%s: %s", brief(line), first)
			}
		}
	}
	return len(lines), false
}

// TestP4: wherever the power goes, and whatever the drum keeps, documents stand as they did behind the last commit that was answered, or behind the one that was cut.
func TestP4(t *testing.T) {
	lines, states := acts(t)
	more := 0
	for fuse := 0; ; fuse++ {
		ended := false
		for _, bits := range []string{"-", strings.Repeat("1", 99), strings.Repeat("01", 50), "1001"} {
			c := New()
			look(t, c, "new 400 20", "ok", fmt.Sprint("fuse ", fuse), "ok")
			done, commit := cut(t, c, lines)
			ended = done == len(lines)
			for range 1 + fuse%3 { // a crash behind a crash
				look(t, c, "crash "+bits, "ok")
			}
			got := state(c)
			if commit && got != states[done] {
				done, more = done+1, more+1
			}
			if got != states[done] {
				t.Fatalf("P4: behind fuse %d and crash %s there stands %s, not %s", fuse, bits, brief(got), brief(states[done]))
			}
			look(t, c, "begin", "ok", "put z <x/>", "ok", "commit", "ok", "crash -", "ok", "export z", `ok <x></x>\0a`)
			if audit := c.Do("audit"); !strings.HasPrefix(audit, "ok ") {
				t.Fatalf("P4: %s", audit)
			}
		}
		if ended {
			break
		}
	}
	if more < 5 {
		t.Errorf("%d commits were cut and stand", more)
	}
}
