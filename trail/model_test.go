package trail

import (
	"cmp"
	"fmt"
	"regexp"
	"slices"
	"strings"
	"testing"

	"lectern/api"
	"lectern/char"
	"lectern/sample"
	"lectern/tree"
)

// The model knows a trail by its words: a step, or an attribute, which stands ahead of all steps.
type word struct {
	step        int
	isStep      int
	space, name string
}

func words(t Trail) []word {
	var l []word
	for _, step := range t.Steps {
		l = append(l, word{step: step, isStep: 1})
	}
	if t.Attr {
		l = append(l, word{space: t.Name.URI, name: t.Name.Local})
	}
	return l
}

func modelCompare(a, b Trail) int {
	return slices.CompareFunc(words(a), words(b), func(v, w word) int {
		return cmp.Or(cmp.Compare(v.isStep, w.isStep), cmp.Compare(v.step, w.step), cmp.Compare(v.space, w.space), cmp.Compare(v.name, w.name))
	})
}

func modelUnder(a, b Trail) bool {
	v, w := words(a), words(b)
	return len(v) <= len(w) && slices.Equal(v, w[:len(v)])
}

func isSpace(s string) bool {
	_, e := char.Fault([]byte(s))
	return e == api.OK && len(s) <= 100
}

func modelShow(t Trail) (string, bool) {
	if len(t.Steps) > 64 || !t.Attr && (t.Name.URI != "" || t.Name.Local != "") || t.Attr && (!char.Name(t.Name.Local) || !isSpace(t.Name.URI)) {
		return "", false
	}
	s := ""
	for _, step := range t.Steps {
		if step < 0 || step >= 1000000000 {
			return "", false
		}
		s += fmt.Sprintf("/%d", step)
	}
	switch {
	case t.Attr && t.Name.URI == "":
		s += "/@" + t.Name.Local
	case t.Attr:
		s += "/@" + t.Name.Local + "{" + t.Name.URI + "}"
	case s == "":
		s = "/"
	}
	return s, true
}

var (
	isSteps = regexp.MustCompile(`^(/(0|[1-9][0-9]{0,8})){0,64}$`)
	isAttr  = regexp.MustCompile(`(?s)^([^{]*)(\{(.+)\})?$`)
)

// modelReads says whether a text is that of a right trail.
func modelReads(s string) bool {
	steps, name, attr := strings.Cut(s, "/@")
	if !attr {
		return s == "/" || s != "" && isSteps.MatchString(s)
	}
	m := isAttr.FindStringSubmatch(name)
	return isSteps.MatchString(steps) && m != nil && char.Name(m[1]) && isSpace(m[3])
}

func drawTrail(d *sample.Dice) Trail {
	var t Trail
	for range d.Under(5) {
		t.Steps = append(t.Steps, d.Under(3))
	}
	if len(t.Steps) > 0 && d.OneIn(6) {
		odd := []int{-1, 9, 10, 11, 999999999, 1000000000, -999999999, 1 << 62, -1 << 63, 123456}
		t.Steps[d.Under(len(t.Steps))] = odd[d.Under(len(odd))]
	}
	if t.Attr = d.OneIn(2); t.Attr || d.OneIn(8) {
		t.Name = api.Name{URI: d.Of("", "", "u", "v", "{", "}", "/@a{u}", " \n", "é", "\xff", "\x00", strings.Repeat("u", 101)), Local: d.Of("a", "a", "b", "B", "é", "ab", "xmlns", "", "1", "a:b", "a{", strings.Repeat("a", 101))}
	}
	return t
}

// drawNear is a trail that is often the same, above or below.
func drawNear(d *sample.Dice, t Trail) Trail {
	near := Trail{Steps: slices.Clone(t.Steps), Attr: t.Attr, Name: t.Name}
	switch d.Under(6) {
	case 0:
		near.Attr = !near.Attr
	case 1:
		near.Steps = append(near.Steps, d.Under(2))
	case 2:
		near.Steps = near.Steps[:d.Under(len(t.Steps)+1)]
	case 3:
		near.Name.Local = d.Of("a", "b", "")
	case 4:
		return drawTrail(d)
	}
	return near
}

func TestModelOfOrder(t *testing.T) {
	dice := sample.Dice(1)
	for range 60000 {
		a := drawTrail(&dice)
		b := drawNear(&dice, a)
		c := drawNear(&dice, b)
		if got, want := Compare(a, b), modelCompare(a, b); got != want || Compare(b, a) != -want {
			t.Fatalf("P8.2: Compare(%+v, %+v): %d, %d", a, b, got, Compare(b, a))
		}
		if got, want := Under(a, b), modelUnder(a, b); got != want {
			t.Fatalf("P8.2: Under(%+v, %+v): %v", a, b, got)
		}
		if Compare(a, b) <= 0 && Compare(b, c) <= 0 && Compare(a, c) > 0 {
			t.Fatalf("P8.4: %+v, %+v, %+v: no order", a, b, c)
		}
		if Under(a, b) && (Compare(a, b) > 0 || Compare(a, c) < 0 && !Under(a, c) && Compare(b, c) >= 0) {
			t.Fatalf("P8.4: %+v under %+v, beside %+v", b, a, c)
		}
	}
}

func TestModelOfTexts(t *testing.T) {
	dice := sample.Dice(2)
	right := 0
	for range 60000 {
		a := drawTrail(&dice)
		want, ok := modelShow(a)
		got, e := Show(a)
		if got != want || ok != (e == api.OK) || !ok && e != api.ErrPath {
			t.Fatalf("P8.1: Show(%+v): %q, %d", a, got, e)
		}
		if !ok {
			continue
		}
		right++
		if b, e := Read(got); e != api.OK || !same(a, b) {
			t.Fatalf("P8.1: Read(%q): %+v, %d, not %+v", got, b, e, a)
		}
	}
	if right < 10000 || right > 50000 {
		t.Errorf("%d are right", right)
	}
}

// TestModelOfReading: texts that are nearly those of trails.
func TestModelOfReading(t *testing.T) {
	dice := sample.Dice(3)
	read := 0
	for range 200000 {
		s := dice.Of("", "", "/0/10", "x")
		for range dice.Under(7) {
			s += dice.Of("/", "/", "/", "/0", "/1", "/@", "@", "0", "1", "12345678", "-", "+", "a", "b:", "{", "{u}", "}", " ", "é", "\xff", "_", ".")
		}
		got, e := Read(s)
		switch {
		case !modelReads(s):
			if e != api.ErrPath || !same(got, Trail{}) {
				t.Fatalf("P8.1: Read(%q): %+v, %d", s, got, e)
			}
		default:
			read++
			if text, ok := modelShow(got); e != api.OK || !ok || text != s {
				t.Fatalf("P8.1: Read(%q): %+v, %d", s, got, e)
			}
		}
	}
	if read < 5000 {
		t.Errorf("%d were read", read)
	}
}

// texts is the texts of all Texts below.
func texts(n api.Node) string {
	s := ""
	for _, kid := range n.Kids {
		if kid.Kind == api.Text {
			s += kid.Text
		}
		s += texts(kid)
	}
	return s
}

func modelValue(d api.Node, t Trail) (string, api.Errno) {
	if len(t.Steps) > 0 {
		if t.Steps[0] < 0 || t.Steps[0] >= len(d.Kids) {
			return "", api.ErrPath
		}
		return modelValue(d.Kids[t.Steps[0]], Trail{t.Steps[1:], t.Attr, t.Name})
	}
	if t.Attr {
		for _, a := range d.Attrs {
			if d.Kind == api.Element && a.Name == t.Name {
				return a.Value, api.OK
			}
		}
		return "", api.ErrNone
	}
	if d.Kind == api.Text || d.Kind == api.Comment || d.Kind == api.Instr {
		return d.Text, api.OK
	}
	return texts(d), api.OK
}

// jumble is a tree of any kinds, with anything in them.
func jumble(d *sample.Dice, deep int) api.Node {
	n := api.Node{Kind: d.Under(8) - 1, Name: api.Name{Local: d.Of("", "a")}, Text: d.Of("", "x", "yz", "\xff")}
	for range d.Under(4) {
		n.Attrs = append(n.Attrs, api.Attr{Name: api.Name{URI: d.Of("", "u"), Local: d.Of("a", "b")}, Value: d.Text()})
	}
	for range d.Under(max(5-deep, 1)) {
		n.Kids = append(n.Kids, jumble(d, deep+1))
	}
	return n
}

func TestModelOfValues(t *testing.T) {
	dice := sample.Dice(4)
	for i := range 400 {
		d := jumble(&dice, 0)
		if i%2 == 0 {
			d = dice.Document()
		}
		keep := tree.Copy(d)
		for path, n := range tree.All(d) {
			trails := []Trail{{Steps: path}, {Steps: append(slices.Clone(path), dice.Under(7)-1)}, {Steps: path, Attr: true, Name: api.Name{Local: "a"}}, {Steps: path, Name: api.Name{Local: "a"}}}
			for _, a := range n.Attrs {
				trails = append(trails, Trail{path, true, a.Name})
			}
			for _, a := range trails {
				got, e := Value(d, a)
				if want, f := modelValue(d, a); got != want || e != f {
					t.Fatalf("P8.3: Value(%+v, %+v): %q, %d, not %q, %d", d, a, got, e, want, f)
				}
			}
		}
		if !tree.Equal(d, keep) {
			t.Fatal("P8.4: what was handed in is another one")
		}
	}
}
