package pick

import (
	"fmt"
	"regexp"
	"slices"
	"strings"
	"testing"
	"unicode/utf8"

	"lectern/api"
	"lectern/sample"
	"lectern/trace"
	"lectern/trail"
	"lectern/tree"
)

func same(a, b trail.Trail) bool {
	return slices.Equal(a.Steps, b.Steps) && a.Attr == b.Attr && a.Name == b.Name
}

// The model of Check is an expression that all queries match, and no others; a text goes on to be one, if it matches with one of some ends.
const (
	start   = `[A-Z_a-z\x{c0}-\x{d6}\x{d8}-\x{f6}\x{f8}-\x{2ff}\x{370}-\x{37d}\x{37f}-\x{1fff}\x{200c}-\x{200d}\x{2070}-\x{218f}\x{2c00}-\x{2fef}\x{3001}-\x{d7ff}\x{f900}-\x{fdcf}\x{fdf0}-\x{fffd}\x{10000}-\x{effff}]`
	more    = `[-.0-9A-Z_a-z\x{b7}\x{c0}-\x{d6}\x{d8}-\x{f6}\x{f8}-\x{37d}\x{37f}-\x{1fff}\x{200c}-\x{200d}\x{203f}-\x{2040}\x{2070}-\x{218f}\x{2c00}-\x{2fef}\x{3001}-\x{d7ff}\x{f900}-\x{fdcf}\x{fdf0}-\x{fffd}\x{10000}-\x{effff}]`
	written = start + more + `*(\{[^}]+\})?`
	spot    = `-?[0-9]{1,7},-?[0-9]{1,7}`
	asked   = `\[([1-9][0-9]{0,5}|@` + written + `(='[^']*'|~` + spot + `)?)\]`
	tested  = `(\*|text\(\)|comment\(\)|node\(\)|` + written + `)`
	stepped = `//?` + tested + `(` + asked + `)*`
	byAttr  = `/@(\*|` + written + `)`
)

var (
	isQuery = regexp.MustCompile(`(?s)^(` + stepped + `)+(` + byAttr + `)?$|^` + byAttr + `$`)
	stepOf  = regexp.MustCompile(`(?s)^(` + stepped + `|` + byAttr + `)`)
)

// plain has 1 in the place of each byte that begins no char: an expression takes these for a char that names may have.
func plain(s string) string {
	b := []byte(s)
	for i := 0; i < len(b); {
		r, size := utf8.DecodeRune(b[i:])
		if r == utf8.RuneError && size == 1 {
			b[i] = 1
		}
		i += size
	}
	return string(b)
}

// goesOn says whether some query begins with s, or is s.
func goesOn(s string) bool {
	ends := []string{"", "a", "*", "/a", "/@a", ")", "()", "1]", "]", "}", "x}", "x}]", "}]", "a]", "@a]", "'']", "']", "1,1]", ",1]", "[1]"}
	return slices.ContainsFunc(ends, func(end string) bool { return isQuery.MatchString(s + end) })
}

func modelCheck(q string) (int, api.Errno) {
	s := plain(q)
	if isQuery.MatchString(s) {
		count := 0
		for rest := s; rest != ""; count++ {
			rest = rest[len(stepOf.FindString(rest)):]
		}
		if count > 20 {
			return 0, api.ErrLimit
		}
		return 0, api.OK
	}
	for at := 0; at < len(s); {
		_, size := utf8.DecodeRuneInString(s[at:])
		if !goesOn(s[:at+size]) {
			return at, api.ErrQuery
		}
		at += size
	}
	return len(s), api.ErrQuery
}

func drawName(d *sample.Dice) string {
	return d.Of("a", "b", "c", "a", "b", "_", "é", "a-1.x", "text", "node", "x") + d.Of("", "", "", "", "{u}", "{v}", "{urn:w}")
}

func drawCondition(d *sample.Dice) string {
	switch d.Under(5) {
	case 0, 1:
		return "[" + d.Of("1", "2", "3", "1", "2", "10", "999999") + "]"
	case 2:
		return "[@" + drawName(d) + "]"
	case 3:
		return "[@" + drawName(d) + "='" + d.Of("", "x", "y", "xy", "M0 0 4 0 4 4Z") + "']"
	}
	return fmt.Sprintf("[@%s~%d,%d]", drawName(d), d.Under(9)-3, d.Under(9)-3)
}

// drawStep is a step that means no attributes.
func drawStep(d *sample.Dice) string {
	s := d.Of("/", "/", "//") + d.Of("*", "node()", "*", "node()", "text()", "comment()", drawName(d), drawName(d))
	for d.OneIn(3) {
		s += drawCondition(d)
	}
	return s
}

func drawQuery(d *sample.Dice) string {
	s := d.Of("", "", "//*", "//node()", "/*")
	for range d.Under(3) {
		s += drawStep(d)
	}
	if s == "" || d.OneIn(4) {
		s += "/@" + d.Of("*", drawName(d))
	}
	return s
}

// spoilt is a query with some bytes put in, left out, or cut.
func spoilt(d *sample.Dice, s string) string {
	for range d.Under(3) {
		at := d.Under(len(s) + 1)
		switch d.Under(4) {
		case 0:
			s = s[:at]
		case 1:
			s = s[:at] + s[min(at+1, len(s)):]
		default:
			s = s[:at] + d.Of("/", "@", "[", "]", "'", "{", "}", "(", ")", "()", "*", "~", ",", "-", "0", "1", "1234567", "=", "a", "é", "\xff", "\xc3", "\u20ac", " ", ":", "text(", ".") + s[at:]
		}
	}
	return s
}

func TestModelOfCheck(t *testing.T) {
	dice := sample.Dice(2)
	count := map[api.Errno]int{}
	for range 25000 {
		q := drawQuery(&dice)
		if dice.OneIn(20) {
			q = strings.Repeat("/a", 17+dice.Under(3)) + q
		}
		q = spoilt(&dice, q)
		at, e := Check(q)
		count[e]++
		if want, err := modelCheck(q); at != want || e != err {
			t.Fatalf("P11.1: Check(%q): %d, %d, not %d, %d", q, at, e, want, err)
		}
	}
	if count[api.OK] < 5000 || count[api.ErrQuery] < 5000 || count[api.ErrLimit] < 50 {
		t.Errorf("drawn: %v", count)
	}
}

// TestP1: any bytes.
func TestP1(t *testing.T) {
	dice := sample.Dice(3)
	d := sample.Doc(sample.Elem("a"))
	for range 20000 {
		b := []byte(dice.Of("", "/", "/a", "/a[", "/a[@a", "//a{", "/@a"))
		for range dice.Under(6) {
			b = append(b, byte(dice.Under(256)))
		}
		at, e := Check(string(b))
		if want, err := modelCheck(string(b)); at != want || e != err {
			t.Fatalf("P11.1: Check(%q): %d, %d, not %d, %d", b, at, e, want, err)
		}
		l, place, f := Pick(d, string(b))
		if place != at || f != e || e != api.OK && len(l) > 0 {
			t.Fatalf("P11.2: Pick %q: %v, %d, %d, not %d, %d", b, l, place, f, at, e)
		}
	}
}

var (
	headOf = regexp.MustCompile(`(?s)^(//?)(@?)` + `(\*|text\(\)|comment\(\)|node\(\)|[^][/@*{}=~']+(\{[^}]*\})?)`)
	nextOf = regexp.MustCompile(`(?s)^\[(@([^]='~{}]+(\{[^}]*\})?)(='([^']*)'|~(-?[0-9]+),(-?[0-9]+))?|[0-9]+)\]`)
)

func modelName(s string) api.Name {
	local, space, _ := strings.Cut(s, "{")
	return api.Name{Local: local, URI: strings.TrimSuffix(space, "}")}
}

func modelFits(n api.Node, test string) bool {
	switch test {
	case "*":
		return n.Kind == api.Element
	case "text()":
		return n.Kind == api.Text
	case "comment()":
		return n.Kind == api.Comment
	case "node()":
		return true
	}
	return n.Kind == api.Element && n.Name == modelName(test)
}

// modelHolds asks a condition that is no number, in the words that nextOf finds.
func modelHolds(n api.Node, words []string) bool {
	for _, a := range n.Attrs {
		if a.Name != modelName(words[2]) {
			continue
		}
		if !strings.HasPrefix(words[4], "~") {
			return words[4] == "" || a.Value == words[5]
		}
		var x, y float64
		fmt.Sscan(words[6]+" "+words[7], &x, &y)
		f, _, e := trace.Read(a.Value)
		times, on, _ := trace.Around(f, complex(x, y))
		return e == api.OK && (on || times != 0)
	}
	return false
}

// modelPick answers texts of trails: of each of some paths what the first step of q means, and of these the next one.
func modelPick(t *testing.T, d api.Node, meant [][]int, q string) []trail.Trail {
	var out []trail.Trail
	if q == "" {
		for _, path := range meant {
			out = append(out, trail.Trail{Steps: path})
		}
		return out
	}
	head := headOf.FindStringSubmatch(q)
	q = q[len(head[0]):]
	if head[2] == "@" {
		for _, path := range meant {
			n, _ := tree.At(d, path)
			for _, a := range n.Attrs {
				if head[3] == "*" || a.Name == modelName(head[3]) {
					out = append(out, trail.Trail{Steps: path, Attr: true, Name: a.Name})
				}
			}
		}
		return out
	}
	var conditions [][]string
	for strings.HasPrefix(q, "[") {
		words := nextOf.FindStringSubmatch(q)
		conditions = append(conditions, words)
		q = q[len(words[0]):]
	}
	var next [][]int
	for _, path := range meant {
		top, _ := tree.At(d, path)
		for below, n := range tree.All(top) {
			if head[1] == "//" || len(below) == 0 {
				next = append(next, modelKids(t, n, slices.Concat(path, below), head[3], conditions)...)
			}
		}
	}
	slices.SortFunc(next, slices.Compare)
	next = slices.CompactFunc(next, func(a, b []int) bool { return slices.Equal(a, b) })
	return modelPick(t, d, next, q)
}

// modelKids is the paths of the kids of a node that a test and conditions leave.
func modelKids(t *testing.T, n api.Node, path []int, test string, conditions [][]string) [][]int {
	var left []int
	for i, kid := range n.Kids {
		if modelFits(kid, test) {
			left = append(left, i)
		}
	}
	for _, words := range conditions {
		var still []int
		number := 0
		fmt.Sscan(words[1], &number)
		for i, kid := range left {
			if number == i+1 || number == 0 && modelHolds(n.Kids[kid], words) {
				still = append(still, kid)
			}
		}
		left = still
	}
	var out [][]int
	for _, kid := range left {
		out = append(out, append(slices.Clone(path), kid))
	}
	return out
}

// drawDocument has few names and values, and figures among these.
func drawDocument(d *sample.Dice) api.Node {
	plain := d.Document()
	var rename func(n *api.Node)
	rename = func(n *api.Node) {
		if n.Kind == api.Element {
			n.Name = api.Name{URI: d.Of("", "", "", "u", "v"), Local: d.Of("a", "b", "c", "text")}
			n.Attrs = nil
			for _, a := range []string{"a", "b", "c"} {
				if d.OneIn(2) {
					n.Attrs = append(n.Attrs, api.Attr{Name: api.Name{Local: a}, Value: d.Of("", "x", "y", "xy", "M0 0 4 0 4 4Z", "M-2-2h8v8h-8z", "m-1-1 5 5 0-5z M0 0", "M1 1")})
				}
			}
			if d.OneIn(3) {
				n.Attrs = append(n.Attrs, api.Attr{Name: api.Name{URI: "u", Local: "a"}, Value: d.Of("x", "M0 0 4 0 4 4Z")})
			}
		}
		for i := range n.Kids {
			rename(&n.Kids[i])
		}
	}
	rename(&plain)
	return plain
}

func TestModelOfPick(t *testing.T) {
	dice := sample.Dice(4)
	some := 0
	for range 300 {
		d := drawDocument(&dice)
		for tree.Size(d) > 300 {
			d = drawDocument(&dice)
		}
		keep := tree.Copy(d)
		for range 20 {
			q := drawQuery(&dice)
			got, at, e := Pick(d, q)
			if want := modelPick(t, d, [][]int{nil}, q); !slices.EqualFunc(got, want, same) || at != 0 || e != api.OK {
				t.Fatalf("P11.2: Pick %s of %+v: %+v, %d, %d, not %+v", q, d, got, at, e, want)
			}
			if len(got) > 0 {
				some++
			}
		}
		if !tree.Equal(d, keep) {
			t.Fatal("P11.3: what was handed in is another one")
		}
	}
	if some < 1500 {
		t.Errorf("%d mean something", some)
	}
}

// within says whether all of a are in b.
func within(a, b []trail.Trail) bool {
	return !slices.ContainsFunc(a, func(x trail.Trail) bool {
		return !slices.ContainsFunc(b, func(y trail.Trail) bool { return same(x, y) })
	})
}

func TestP11_3Conditions(t *testing.T) {
	dice := sample.Dice(5)
	fewer := 0
	for range 2000 {
		d, q := drawDocument(&dice), dice.Of("/", "//")+dice.Of("*", "node()", "a", "b")
		for range dice.Under(3) {
			q += drawCondition(&dice)
		}
		all := again(t, d, q)
		more := drawCondition(&dice)
		if !strings.HasPrefix(more, "[@") {
			continue
		}
		left := again(t, d, q+more)
		if !within(left, all) {
			t.Fatalf("P11.3: %s means more than %s: %+v, %+v", q+more, q, left, all)
		}
		if len(left) < len(all) {
			fewer++
		}
	}
	if fewer < 100 {
		t.Errorf("%d mean less", fewer)
	}
}

func TestP11_3Everywhere(t *testing.T) {
	dice := sample.Dice(6)
	for range 300 {
		d, test := drawDocument(&dice), dice.Of("*", "node()", "text()", "comment()", "a", "b{u}")
		deep := again(t, d, "//"+test)
		var each []trail.Trail
		for path, n := range tree.All(d) {
			for i, kid := range n.Kids {
				if modelFits(kid, test) {
					each = append(each, trail.Trail{Steps: append(slices.Clone(path), i)})
				}
			}
		}
		slices.SortFunc(each, trail.Compare)
		if !slices.EqualFunc(deep, each, same) {
			t.Fatalf("P11.3: //%s: %+v, not %+v", test, deep, each)
		}
	}
}
