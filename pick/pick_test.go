package pick

import (
	"slices"
	"strings"
	"testing"

	"lectern/api"
	"lectern/parse"
	. "lectern/sample"
	"lectern/trail"
	"lectern/tree"
)

func said(t *testing.T, s string) api.Node {
	t.Helper()
	d, at, e := parse.Parse([]byte(s))
	if e != api.OK {
		t.Fatalf("%q: %d, %d", s, at, e)
	}
	return d
}

// shown is the texts of trails, a blank between.
func shown(t *testing.T, l []trail.Trail) string {
	t.Helper()
	var words []string
	for _, a := range l {
		s, e := trail.Show(a)
		if e != api.OK {
			t.Errorf("%+v isn't right", a)
		}
		words = append(words, s)
	}
	return strings.Join(words, " ")
}

func lookPick(t *testing.T, d api.Node, q, want string) {
	t.Helper()
	l, at, e := Pick(d, q)
	if got := shown(t, l); got != want || at != 0 || e != api.OK {
		t.Errorf("P11.2: Pick %s: %q, %d, %d, not %q", q, got, at, e, want)
	}
	lookRight(t, q)
}

func lookRight(t *testing.T, q string) {
	t.Helper()
	if at, e := Check(q); at != 0 || e != api.OK {
		t.Errorf("P11.1: Check(%q): %d, %d", q, at, e)
	}
}

func lookFault(t *testing.T, q string, place int, want api.Errno) {
	t.Helper()
	if at, e := Check(q); at != place || e != want {
		t.Errorf("P11.1: Check(%.80q): %d, %d, not %d, %d", q, at, e, place, want)
	}
	// A query's fault comes ahead of a document's.
	for _, d := range []api.Node{{}, Doc(Elem("a"))} {
		if l, at, e := Pick(d, q); len(l) > 0 || at != place || e != want {
			t.Errorf("P11.2: Pick %.80q: %v, %d, %d, not %d, %d", q, l, at, e, place, want)
		}
	}
}

const example = `<a><b x="1"/><b d="M0 0 4 0 4 4Z">t</b><c xmlns="u"/></a>`

func TestExamples(t *testing.T) {
	d := said(t, example)
	for q, want := range map[string]string{
		"/a/b": "/0/0 /0/1", "//b[2]": "/0/1", "/a/*[3]": "/0/2", "//c": "", "//c{u}": "/0/2", "//text()": "/0/1/0", "/a/b/@*": "/0/0/@x /0/1/@d",
		"//b[@x]": "/0/0", "//b[@x='1']": "/0/0", "//b[@d~3,1]": "/0/1", "//b[@d~1,3]": "",
	} {
		lookPick(t, d, q, want)
	}
	for q, place := range map[string]int{"a": 0, "/a[0]": 3, "/a[@x='": 7, "/text(/": 6, "/@a/b": 3, "//@a": 2} {
		lookFault(t, q, place, api.ErrQuery)
	}
}

func TestP11_1Right(t *testing.T) {
	for _, q := range []string{
		"/a", "//a", "/*", "//*", "/@a", "/@*", "/@a{u}", "/a/@a", "//a//b/c", "/text()", "//comment()", "/node()",
		"/text", "/comment", "/node", "/text/comment/node", "/text{u}", "/textx", "/node[1]", "/@text", "/@node{u}", "/instr", "/text()/text()", "/texts", "/tex",
		"/_", "/é", "/a-1.·x", "/a{u}/b{v}", "/a{ }", "/a{{}", "/a{/}", "/a{[']}", "/a{\xff}", "/a{\x00}", "/@a{\xc3}", "/a{" + strings.Repeat("u", 1000) + "}", "/" + strings.Repeat("a", 1000),
		"/a[1]", "/a[999999]", "/a[1][2][1]", "/*[1]", "/node()[10]", "/text()[@a]", "/a[@a]", "/a[@a{u}]", "/a[@text]", "/a[@a='']", "/a[@a='x']", "/a[@a='\"']", "/a[@a=']']", "/a[@a='\xff\x00/[@{}\n']", "/a[@a{u}='x'][@b]",
		"/a[@a~0,0]", "/a[@a~-1,-2]", "/a[@a~9999999,-9999999]", "/a[@a~007,-0]", "/a[@a{u}~1,2][1]/b", "/a[@a~1,2]/@b",
		"/a" + strings.Repeat("[1]", 1000), strings.Repeat("/a", 20), strings.Repeat("//node()[1]", 20), strings.Repeat("/a", 19) + "/@a",
	} {
		lookRight(t, q)
	}
}

func TestP11_1Places(t *testing.T) {
	for q, place := range map[string]int{
		"": 0, "a": 0, " /a": 0, "@a": 0, "*": 0, "[1]": 0, "\xff": 0, "é": 0,
		"/": 1, "//": 2, "///": 2, "///a": 2, "//@a": 2, "/@": 2, "/@/": 2, "/@@a": 2, "/ a": 1, "/1": 1, "/-a": 1, "/.": 1, "/:a": 1, "/[1]": 1, "/(": 1, "/{u}": 1, "/\xff": 1, "/\xc3": 1, "/\xe4\xb8": 1, "/\xed\xa0\x80": 1, "/\xef\xbf\xbe": 1, "/\x00": 1, "/×": 1,
		"/a ": 2, "/a:b": 2, "/a*": 2, "/*a": 2, "/**": 2, "/a@b": 2, "/a]": 2, "/a)": 2, "/a}": 2, "/a()": 2, "/a\xff": 2, "/a\xc3": 2, "/a÷": 2, "/é×": 3, "/a'": 2, "/a=": 2, "/a~": 2, "/a/": 3, "/a//": 4, "/a///b": 4, "/*{u}": 2, "/*/": 3,
		"/a{": 3, "/a{}": 3, "/a{u": 4, "/a{u}}": 5, "/a{u}{v}": 5, "/a{u}x": 5, "/a{u}/": 6, "/a{\xc3": 4, "/a{u}(": 5,
		"/text(": 6, "/text((": 6, "/text(a": 6, "/text( )": 6, "/text())": 7, "/text()x": 7, "/text(){u}": 7, "/text()()": 7, "/comment(": 9, "/comment(1)": 9, "/node(": 6, "/node(*)": 6, "/textx()": 6, "/xtext()": 6, "/Text()": 5, "/instr()": 6, "/text{u}()": 8, "/text ()": 5, "/tex()": 4, "//text(": 7, "/comments()": 9,
		"/@a/b": 3, "/@a//b": 3, "/@a[1]": 3, "/@a ": 3, "/@*/": 3, "/@*[": 3, "/@*a": 3, "/@**": 3, "/@a{u}/": 6, "/@a{u}[1]": 6, "/@a{": 4, "/@a{}": 4, "/@a{u": 5, "/@text()": 6, "/@node()": 6, "/@1": 2, "/@a:b": 3, "/@a@b": 3, "/@*{u}": 3,
		"/a[": 3, "/a[]": 3, "/a[[": 3, "/a[0]": 3, "/a[01]": 3, "/a[-1]": 3, "/a[+1]": 3, "/a[ 1]": 3, "/a[a]": 3, "/a['": 3, "/a[*]": 3, "/a[1": 4, "/a[1 ]": 4, "/a[1,2]": 4, "/a[1@a]": 4, "/a[1234567]": 9, "/a[100000": 9, "/a[1000000": 9, "/a[1x]": 4, "/a[1]]": 5, "/a[1][": 6, "/a[1]x": 5, "/a[1][0]": 6, "/a[١]": 3,
		"/a[@": 4, "/a[@]": 4, "/a[@*]": 4, "/a[@1]": 4, "/a[@@a]": 4, "/a[@a": 5, "/a[@a ]": 5, "/a[@a:b]": 5, "/a[@a[": 5, "/a[@a{": 6, "/a[@a{}]": 6, "/a[@a{u": 7, "/a[@a{u}": 8, "/a[@a{u}x": 8, "/a[@text()": 8, "/a[@a/": 5, "/a[@a\xff]": 5,
		"/a[@a=": 6, "/a[@a=]": 6, "/a[@a=x]": 6, "/a[@a=\"x\"]": 6, "/a[@a==": 6, "/a[@a= 'x'": 6, "/a[@a='": 7, "/a[@a='x": 8, "/a[@a='x\xff/]": 11, "/a[@a='x'": 9, "/a[@a='x'x": 9, "/a[@a='x''": 9, "/a[@a='x' ]": 9, "/a[@a='x'][": 11, "/a[@a=1]": 6,
		"/a[@a~": 6, "/a[@a~]": 6, "/a[@a~,": 6, "/a[@a~+1,1]": 6, "/a[@a~ 1": 6, "/a[@a~-": 7, "/a[@a~--": 7, "/a[@a~-,": 7, "/a[@a~-]": 7, "/a[@a~1": 7, "/a[@a~1]": 7, "/a[@a~1 ": 7, "/a[@a~1-": 7, "/a[@a~1.5": 7, "/a[@a~1,": 8, "/a[@a~1,]": 8, "/a[@a~1, 2": 8, "/a[@a~1,+": 8, "/a[@a~1,-": 9, "/a[@a~1,-]": 9, "/a[@a~1,2": 9, "/a[@a~1,2,": 9, "/a[@a~1,2-": 9, "/a[@a~1,2x": 9, "/a[@a~12345678": 13, "/a[@a~-12345678": 14, "/a[@a~1,12345678": 15, "/a[@a~1,-12345678]": 16, "/a[@a~1234567": 13, "/a[@a~00000000": 13, "/a[@a~1,2]]": 10, "/a[@a='x'~1,2]": 9, "/a[@a~'1'": 6,
	} {
		lookFault(t, q, place, api.ErrQuery)
	}
}

func TestP11_1Steps(t *testing.T) {
	lookFault(t, strings.Repeat("/a", 21), 0, api.ErrLimit)
	lookFault(t, strings.Repeat("//*[1]", 21), 0, api.ErrLimit)
	lookFault(t, strings.Repeat("/a", 20)+"/@a", 0, api.ErrLimit)
	lookFault(t, strings.Repeat("/a", 5000), 0, api.ErrLimit)
	// What is no query is no longer one, either.
	lookFault(t, strings.Repeat("/a", 21)+"/", 43, api.ErrQuery)
	lookFault(t, strings.Repeat("/a", 21)+"/@a/b", 45, api.ErrQuery)
	lookFault(t, strings.Repeat("/a", 5000)+"x[", 10002, api.ErrQuery)
}

func TestP11_2Documents(t *testing.T) {
	for want, d := range map[api.Errno]api.Node{
		api.ErrKind:  {},
		api.ErrDeep:  Doc(Chain(Elem("a"), 33)),
		api.ErrLimit: Doc(Elem("a", Text(strings.Repeat("x", 8193)))),
		api.ErrName:  Doc(Elem("1")),
		api.ErrChar:  Doc(Elem("a", Text("\xff"))),
		api.ErrOrder: Doc(With(Elem("a"), "", "b", "", "", "b", "")),
		api.ErrText:  Doc(Elem("a", Text("x"), Text("y"))),
		api.ErrRoot:  Doc(),
	} {
		for _, q := range []string{"/a", "//node()", "/@a"} {
			if l, at, e := Pick(d, q); len(l) > 0 || at != 0 || e != want {
				t.Errorf("P11.2: Pick %s: %v, %d, %d, not %d", q, l, at, e, want)
			}
		}
	}
	// What is right, but just.
	if l, at, e := Pick(Doc(Chain(Text("x"), 33)), "//text()"); len(l) != 1 || len(l[0].Steps) != 34 || at != 0 || e != api.OK {
		t.Errorf("P11.2: deep: %v, %d, %d", l, at, e)
	}
	many := Elem("a")
	for range 1999 {
		many.Kids = append(many.Kids, Elem("b"))
	}
	if l, _, e := Pick(Doc(many), "//b"); len(l) != 1999 || e != api.OK || l[1998].Steps[1] != 1998 {
		t.Errorf("P11.2: many: %d, %d", len(l), e)
	}
	lookPick(t, Doc(many), "/a/b[1999]", "/0/1998")
	lookPick(t, Doc(many), "/a/b[2000]", "")
	lookPick(t, Doc(many), "//*[999999]", "")
}

func TestP11_2Tests(t *testing.T) {
	d := said(t, `<!--c--><?a x?><a><text/>t<?a y?><!--d--><b xmlns="u"><a/><node xmlns=""/>u</b><comment/></a><!--e--><?text?>`)
	for q, want := range map[string]string{
		"/a": "/2", "/*": "/2", "/node()": "/0 /1 /2 /3 /4", "/comment()": "/0 /3", "/text()": "", "/text": "", "/b": "", "/a{u}": "",
		"/a/text": "/2/0", "/a/text()": "/2/1", "/a/comment()": "/2/3", "/a/comment": "/2/5", "/a/node()": "/2/0 /2/1 /2/2 /2/3 /2/4 /2/5", "/a/*": "/2/0 /2/4 /2/5", "/a/b": "", "/a/b{u}": "/2/4", "/a/b{v}": "", "/a/text{u}": "",
		"/a/b{u}/*": "/2/4/0 /2/4/1", "/a/b{u}/a": "", "/a/b{u}/a{u}": "/2/4/0", "/a/*/node": "/2/4/1", "/a/*/node{u}": "", "/a/node()/node()": "/2/4/0 /2/4/1 /2/4/2",
		"//a": "/2", "//a{u}": "/2/4/0", "//*": "/2 /2/0 /2/4 /2/4/0 /2/4/1 /2/5", "//text()": "/2/1 /2/4/2", "//comment()": "/0 /2/3 /3",
		"//node()":       "/0 /1 /2 /2/0 /2/1 /2/2 /2/3 /2/4 /2/4/0 /2/4/1 /2/4/2 /2/5 /3 /4",
		"/text()/node()": "", "/comment()//node()": "", "/a/text()/*": "", "/a//text()": "/2/1 /2/4/2", "/a//a{u}": "/2/4/0", "//a//a": "", "//*//*": "/2/0 /2/4 /2/4/0 /2/4/1 /2/5",
		"/b{u}": "", "/a/a{u}": "",
	} {
		lookPick(t, d, q, want)
	}
}

func TestP11_2Numbers(t *testing.T) {
	d := said(t, `<a><b><b i="1"/><c/><b i="2"/></b>t<c/><b><b i="3"><b/></b></b>u<d i=""/></a>`)
	for q, want := range map[string]string{
		"/a/b[1]": "/0/0", "/a/b[2]": "/0/3", "/a/b[3]": "", "/a/*[2]": "/0/2", "/a/node()[2]": "/0/1", "/a/text()[2]": "/0/4", "/a/node()[7]": "",
		"//b[1]": "/0/0 /0/0/0 /0/3/0 /0/3/0/0", "//b[2]": "/0/0/2 /0/3", "//*[3]": "/0/0/2 /0/3", "//node()[1]": "/0 /0/0 /0/0/0 /0/3/0 /0/3/0/0",
		"/a/b/b[1]": "/0/0/0 /0/3/0", "/a/b/b[2]": "/0/0/2", "/a/b[2]/b[1]": "/0/3/0", "/a/b[2][1]": "/0/3", "/a/b[2][2]": "", "/a/b[1][1][1]": "/0/0",
		// one condition behind the other
		"//*[@i][2]": "/0/0/2", "//*[2][@i]": "", "//*[3][@i]": "/0/0/2", "//*[@i][1]": "/0/0/0 /0/3/0 /0/5", "//*[@i][1][@i='3']": "/0/3/0", "//*[@i='2'][1]": "/0/0/2", "//*[@i='2'][2]": "", "//b[@i][@i='1']": "/0/0/0",
		"/a[1]//b[1]": "/0/0 /0/0/0 /0/3/0 /0/3/0/0", "//b//b[1]": "/0/0/0 /0/3/0 /0/3/0/0", "//b//b": "/0/0/0 /0/0/2 /0/3/0 /0/3/0/0",
	} {
		lookPick(t, d, q, want)
	}
}

func TestP11_2Attributes(t *testing.T) {
	d := said(t, `<a x="1" y=""><b xmlns:p="u" p:x="1" x="2"/>x<!--x--><?x x?><b xmlns:p="v" p:x="1'"/><c y="x"/></a>`)
	for q, want := range map[string]string{
		"/@x": "", "/@*": "", "/a/@x": "/0/@x", "/a/@z": "", "/a/@*": "/0/@x /0/@y", "//a/@y": "/0/@y",
		"/a/b/@x": "/0/0/@x", "/a/b/@x{u}": "/0/0/@x{u}", "/a/b/@x{v}": "/0/4/@x{v}", "/a/b/@x{w}": "", "/a/b/@*": "/0/0/@x /0/0/@x{u} /0/4/@x{v}", "//b[1]/@*": "/0/0/@x /0/0/@x{u}",
		"//*/@*": "/0/@x /0/@y /0/0/@x /0/0/@x{u} /0/4/@x{v} /0/5/@y", "//node()/@*": "/0/@x /0/@y /0/0/@x /0/0/@x{u} /0/4/@x{v} /0/5/@y", "//node()/@x": "/0/@x /0/0/@x", "//text()/@x": "", "//comment()/@*": "",
		"//*[@x]": "/0 /0/0", "//*[@x{u}]": "/0/0", "//*[@x{v}]": "/0/4", "//*[@y]": "/0 /0/5", "//node()[@x]": "/0 /0/0", "//text()[@x]": "",
		"//*[@x='1']": "/0", "//*[@x='2']": "/0/0", "//*[@x{u}='1']": "/0/0", "//*[@x='']": "", "//*[@y='']": "/0", "//*[@y='x']": "/0/5", "//*[@x{v}='1']": "", "//*[@x][@y]": "/0", "//*[@x{u}][@x='2']": "/0/0", "//node()[@y='x']": "/0/5",
	} {
		lookPick(t, d, q, want)
	}
	lookPick(t, Doc(With(Elem("a"), "{", "x", `"]`)), "/a[@x{{}='\"]']/@x{{}", "/0/@x{{}")
}

func TestP11_2Figures(t *testing.T) {
	l := []string{
		"M0 0 4 0 4 4 0 4z",                    // b[1]
		"M0 0 0 4 4 4 4 0z",                    // the other way round
		"M0 0 4 0 4 4 0 4",                     // not closed
		"M0 0 4 0 4 4 0 4z x",                  // no figure
		"M0 0 4 0 4 4 0 4z M-1-1-1 9 9 9 9-1z", // once this way, once the other
		"M2 2z",
		"",
		"M-1000000-1000000h2000000v2000000h-2000000z",
		"M0 0 4 0 4 4 0 4z M1000001 0",
	}
	d := Doc(Elem("a"))
	for _, s := range l {
		d.Kids[0].Kids = append(d.Kids[0].Kids, With(Elem("b"), "", "f", s, "u", "f", "M50 50z"))
	}
	for q, want := range map[string]string{
		"/a/b[@f~1,2]": "/0/0 /0/1 /0/7", "/a/b[@f~2,2]": "/0/0 /0/1 /0/5 /0/7", "/a/b[@f~4,2]": "/0/0 /0/1 /0/4 /0/7", "/a/b[@f~0,-0]": "/0/0 /0/1 /0/4 /0/7", "/a/b[@f~5,5]": "/0/4 /0/7", "/a/b[@f~-1,-1]": "/0/4 /0/7",
		"/a/b[@f~-5,-5]": "/0/7", "/a/b[@f~1000000,-1000000]": "/0/7", "/a/b[@f~1000001,0]": "", "/a/b[@f~0,-1000001]": "", "/a/b[@f~9999999,9999999]": "",
		"/a/b[@f~-999999,3]": "/0/7", "/a/b[@f~3,-999999]": "/0/7", "/a/b[@f{u}~50,50][2]": "/0/1", "/a/b[@f{u}~50,51]": "", "/a/b[@g~1,2]": "", "/a/b[@f{v}~50,50]": "", "//node()[@f~1,2][2]": "/0/1", "/a/b[@f~0000001,02]": "/0/0 /0/1 /0/7",
	} {
		lookPick(t, d, q, want)
	}
}

// TestP5: queries, paths and trails mean the same nodes, in the same order.
func TestP5(t *testing.T) {
	dice := Dice(1)
	for range 100 {
		d := dice.Document()
		var want []trail.Trail
		for path, n := range tree.All(d) {
			if len(path) > 0 {
				want = append(want, trail.Trail{Steps: path})
			}
			for _, a := range n.Attrs {
				want = append(want, trail.Trail{Steps: path, Attr: true, Name: a.Name})
			}
		}
		nodes, _, _ := Pick(d, "//node()")
		attrs, _, _ := Pick(d, "//*/@*")
		all := append(slices.Clone(nodes), attrs...)
		slices.SortFunc(all, trail.Compare)
		if !slices.EqualFunc(all, want, same) {
			t.Fatalf("P5: %+v, not %+v", all, want)
		}
		if !slices.IsSortedFunc(nodes, trail.Compare) || !slices.IsSortedFunc(attrs, trail.Compare) {
			t.Fatal("P11.2: not in the order of trails")
		}
	}
}

func TestP11_3Memory(t *testing.T) {
	d := said(t, `<a><b x="1" y="2"/><b d="M0 0 4 0 4 4Z">t</b><c xmlns="u"/></a>`)
	keep := tree.Copy(d)
	for _, q := range []string{"//node()", "//*/@*", "/a/b[2]", "/a/node()/text()", "//b[@d~3,1]/@d"} {
		first, _, _ := Pick(d, q)
		want := shown(t, first)
		for i := range first {
			_ = append(first[i].Steps, 77, 77, 77, 77)
			for k := range first[i].Steps {
				first[i].Steps[k] = 77
			}
			if shown(t, first[i+1:]) != shown(t, again(t, d, q)[i+1:]) {
				t.Errorf("P11.3: Pick %s: two trails share memory", q)
			}
		}
		if !tree.Equal(d, keep) || shown(t, again(t, d, q)) != want {
			t.Errorf("P11.3: Pick %s: what was handed in is another one", q)
		}
	}
	l, other := again(t, d, "//*/@*"), tree.Copy(d)
	Spoil(d)
	if shown(t, l) != "/0/0/@x /0/0/@y /0/1/@d" || shown(t, again(t, other, "//*/@*")) != shown(t, l) {
		t.Error("P11.3: what was answered shares memory with what was handed in")
	}
}

func again(t *testing.T, d api.Node, q string) []trail.Trail {
	t.Helper()
	l, _, e := Pick(d, q)
	if e != api.OK {
		t.Fatalf("Pick %s: %d", q, e)
	}
	return l
}

// TestP11_3Room: what stands in the spare room of lists isn't there.
func TestP11_3Room(t *testing.T) {
	kids := []api.Node{With(Elem("b"), "", "x", "1", "", "y", "2"), Elem("b"), Elem("c")}
	kids[0].Attrs = kids[0].Attrs[:1]
	d := Doc(Elem("a", kids[:2]...))
	lookPick(t, d, "//node()", "/0 /0/0 /0/1")
	lookPick(t, d, "//*/@*", "/0/0/@x")
	lookPick(t, d, "//*[@y]", "")
}
