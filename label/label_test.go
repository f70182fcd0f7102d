package label

import (
	"bytes"
	"cmp"
	"encoding/hex"
	"fmt"
	"math"
	"slices"
	"strings"
	"testing"

	"lectern/api"
	"lectern/edit"
	. "lectern/sample"
	"lectern/trail"
	"lectern/tree"
)

const far = 1 << 30

// long is a label of many numbers of two bits each.
func long(numbers int) []int {
	l := make([]int, numbers)
	l[numbers-1] = -1
	return l
}

// short is how a list is told where it may be very long.
func short(l []int) string {
	if len(l) > 20 {
		return fmt.Sprintf("%d numbers up to %v", len(l), l[len(l)-3:])
	}
	return fmt.Sprint(l)
}

func unhex(t *testing.T, s string) []byte {
	t.Helper()
	b, err := hex.DecodeString(strings.ReplaceAll(s, " ", ""))
	if err != nil {
		t.Fatal(err)
	}
	return b
}

// lookLabel looks whether a label is right, and whether it has these bytes.
func lookLabel(t *testing.T, l []int, want string) {
	t.Helper()
	b := unhex(t, want)
	if e := Check(l); e != api.OK {
		t.Errorf("P12.1: Check(%v): %d", l, e)
	}
	if got, e := Bytes(l); !bytes.Equal(got, b) || e != api.OK {
		t.Errorf("P12.1: Bytes(%v): %x, %d, not %x", l, got, e, b)
	}
	if got, e := Read(b); !slices.Equal(got, l) || e != api.OK {
		t.Errorf("P12.1: Read(%x): %v, %d, not %v", b, got, e, l)
	}
}

func lookWrong(t *testing.T, l []int, want api.Errno) {
	t.Helper()
	if e := Check(l); e != want {
		t.Errorf("P12.1: Check(%s): %d, not %d", short(l), e, want)
	}
	if b, e := Bytes(l); len(b) != 0 || e != want {
		t.Errorf("P12.1: Bytes(%s): %x, %d, not %d", short(l), b, e, want)
	}
}

func lookNone(t *testing.T, s string) {
	t.Helper()
	if l, e := Read(unhex(t, s)); len(l) != 0 || e != api.ErrForm {
		t.Errorf("P12.1: Read(%s): %v, %d", s, l, e)
	}
}

func lookBetween(t *testing.T, up, l, r, want []int) {
	t.Helper()
	if got, e := Between(up, l, r); !slices.Equal(got, want) || e != api.OK {
		t.Errorf("P12.3: Between(%s, %s, %s): %s, %d, not %s", short(up), short(l), short(r), short(got), e, short(want))
	}
}

func lookNoRoom(t *testing.T, up, l, r []int, want api.Errno) {
	t.Helper()
	if got, e := Between(up, l, r); len(got) != 0 || e != want {
		t.Errorf("P12.3: Between(%s, %s, %s): %s, %d, not %d", short(up), short(l), short(r), short(got), e, want)
	}
}

func TestExamples(t *testing.T) {
	lookLabel(t, []int{1}, "c0")
	lookBetween(t, nil, nil, nil, []int{1})
	lookBetween(t, nil, []int{1}, nil, []int{3})
	lookBetween(t, nil, nil, []int{1}, []int{-1})
	lookBetween(t, nil, []int{1}, []int{3}, []int{2, 1})
	lookBetween(t, nil, []int{1}, []int{2, 1}, []int{2, -1})
	lookBetween(t, nil, []int{2, 1}, []int{3}, []int{2, 3})
	if up := Up([]int{3, 2, 1}); !slices.Equal(up, []int{3}) {
		t.Errorf("Up(3 2 1): %v", up)
	}
	if level := Level([]int{3, 2, 1}); level != 2 {
		t.Errorf("Level(3 2 1): %d", level)
	}
	if !Above([]int{3}, []int{3, 2, 1}) {
		t.Error("3 doesn't stand above 3 2 1")
	}
	lookWrong(t, []int{2}, api.ErrForm)
	lookLabel(t, nil, "")
	lookNone(t, "00")
}

func TestP12_1Labels(t *testing.T) {
	lookLabel(t, []int{}, "")
	lookLabel(t, []int{-1}, "40")
	lookLabel(t, []int{3}, "e0")
	lookLabel(t, []int{5}, "e8")
	lookLabel(t, []int{7}, "f0")
	lookLabel(t, []int{-3}, "20")
	lookLabel(t, []int{-5}, "18")
	lookLabel(t, []int{-7}, "10")
	lookLabel(t, []int{0, 1}, "b0")
	lookLabel(t, []int{0, -1}, "90")
	lookLabel(t, []int{2, 1}, "dc")
	lookLabel(t, []int{1, 1}, "cc")
	lookLabel(t, []int{-2, 1}, "3c")
	lookLabel(t, []int{-1, -1, -1, -1}, "55")
	lookLabel(t, []int{-1, -1, -1, -1, -1}, "5540")
	lookLabel(t, []int{1, 1, 1}, "ccc0")
	lookLabel(t, []int{far - 1}, "fffffffe 00000000")
	lookLabel(t, []int{1 - far}, "00000002 00000000")
	lookLabel(t, []int{far, 1}, "fffffffe 00000007 00")
	lookLabel(t, []int{-far, 1}, "00000001 ffffffff 00")
	lookLabel(t, long(480), strings.Repeat("aa", 119)+"a9")
	lookLabel(t, slices.Repeat([]int{1}, 240), strings.Repeat("cc", 120))
}

func TestP12_1WrongLabels(t *testing.T) {
	for _, v := range []int{0, 2, -2, 1000, -1000, far, -far, far - 2, 2 - far} {
		lookWrong(t, []int{v}, api.ErrForm)
		lookWrong(t, []int{1, v}, api.ErrForm)
		lookWrong(t, []int{v, v}, api.ErrForm)
		lookWrong(t, append(make([]int, 1000), v), api.ErrForm)
	}
	for _, v := range []int{far + 1, -far - 1, far + 2, -far - 2, 1<<32 + 1, 1 - 1<<32, math.MaxInt, math.MinInt, math.MinInt + 1} {
		lookWrong(t, []int{v}, api.ErrForm)
		lookWrong(t, []int{v, 1}, api.ErrForm)
		lookWrong(t, []int{1, v, 0, 1}, api.ErrForm)
		lookWrong(t, append([]int{v}, long(1000)...), api.ErrForm)
	}
	lookWrong(t, long(481), api.ErrLimit)
	lookWrong(t, long(482), api.ErrLimit)
	lookWrong(t, long(100000), api.ErrLimit)
	lookWrong(t, slices.Repeat([]int{1}, 241), api.ErrLimit)
	// 15 numbers of 62 bits leave room for 30 bits more.
	wide := slices.Repeat([]int{far}, 15)
	for _, last := range []int{16381, 16385, 32765, -32767} {
		if e := Check(append(wide[:15:15], last)); e != api.OK {
			t.Errorf("P12.1: Check(.. %d): %d", last, e)
		}
	}
	for _, last := range []int{32767, -32769, far - 1, 1 - far} {
		lookWrong(t, append(wide[:15:15], last), api.ErrLimit)
	}
}

func TestP12_1WrongBytes(t *testing.T) {
	for _, s := range []string{
		"80",                             // 0
		"d0",                             // 2
		"30",                             // -2
		"c8",                             // 1 0
		"fffffffe 00000004",              // 2^30
		"00000001 fffffffc",              // -2^30
		"0000", "c000", "4000", "ccc000", // filled with too much
		"c1", "41", "21", "cd", "c010", "e001", // filled otherwise
		"ff", "fe", "f8", "01", "02", "ffff", "0001", // cut
		"cf", "ccf8", "c0ff", "c001", "fffffffe", "00000001",
		"fffffffe 00000008",          // 2^30 + 1
		"00000001 fffffff8",          // -2^30 - 1
		"ffffffff 00000000",          // 2^31 - 1
		"00000000 80000000",          // -2^32 + 1
		"fffffffe 0000000b 00",       // 2^30 + 1 and 1
		strings.Repeat("aa", 120),    // 480 times 0
		strings.Repeat("cc", 121),    // too long
		strings.Repeat("cc", 100000), // far too long
		strings.Repeat("ff", 120), strings.Repeat("00", 120), strings.Repeat("ff", 100000),
		strings.Repeat("ff", 60) + strings.Repeat("00", 59),
		strings.Repeat("ff", 8) + strings.Repeat("00", 8),
		strings.Repeat("00", 8) + strings.Repeat("ff", 8),
	} {
		lookNone(t, s)
	}
}

// lookRow looks whether lists stand as Compare says.
func lookRow(t *testing.T, row ...[]int) {
	t.Helper()
	for i, a := range row {
		for k, b := range row {
			if got := Compare(a, b); got != cmp.Compare(i, k) {
				t.Errorf("P12.2: Compare(%v, %v): %d", a, b, got)
			}
		}
	}
}

func TestP12_2Compare(t *testing.T) {
	lookRow(t, nil, []int{math.MinInt}, []int{math.MinInt, math.MinInt}, []int{math.MinInt, 0}, []int{-far}, []int{-10}, []int{-2}, []int{-2, 5}, []int{-1}, []int{-1, -1}, []int{0}, []int{0, math.MinInt}, []int{0, -1}, []int{0, 0}, []int{0, 0, 0},
		[]int{1}, []int{1, -7}, []int{1, 1}, []int{1, 1, 1}, []int{1, 2}, []int{1, 2, 1}, []int{1, 10}, []int{2}, []int{2, 1}, []int{3}, []int{10}, []int{far}, []int{math.MaxInt - 1}, []int{math.MaxInt}, []int{math.MaxInt, math.MinInt})
	if Compare(nil, []int{}) != 0 || Compare([]int{}, nil) != 0 {
		t.Error("P12.2: two empty lists differ")
	}
}

func TestP12_2Levels(t *testing.T) {
	for _, l := range []struct {
		list  []int
		level int
		up    []int
	}{
		{nil, 0, nil}, {[]int{}, 0, nil}, {[]int{1}, 1, nil}, {[]int{-1}, 1, nil}, {[]int{1, 1}, 2, []int{1}}, {[]int{-3, -1}, 2, []int{-3}},
		{[]int{2, 1}, 1, nil}, {[]int{-2, 0, 4, -1}, 1, nil}, {[]int{1, 2, 4, 3}, 2, []int{1}}, {[]int{2, 1, 4, 3, 5}, 3, []int{2, 1, 4, 3}}, {[]int{2, 1, 0, 0, 3}, 2, []int{2, 1}},
		// These are no right labels.
		{[]int{0}, 0, nil}, {[]int{0, 2}, 0, nil}, {[]int{1, 0}, 1, []int{1}}, {[]int{1, 0, 2}, 1, []int{1}}, {[]int{1, 3, 2}, 2, []int{1, 3}}, {[]int{2, 3, 2, 4, -6}, 1, []int{2, 3}},
		{[]int{math.MaxInt, math.MinInt, math.MinInt + 1}, 2, []int{math.MaxInt}}, {[]int{math.MinInt, math.MaxInt - 1, 0}, 0, nil}, {[]int{far + 1, far + 2, far + 3}, 2, []int{far + 1}},
	} {
		if got := Level(l.list); got != l.level {
			t.Errorf("P12.2: Level(%v): %d", l.list, got)
		}
		if got := Up(l.list); !slices.Equal(got, l.up) {
			t.Errorf("P12.2: Up(%v): %v", l.list, got)
		}
	}
}

func TestP12_2Above(t *testing.T) {
	for _, l := range []struct {
		a, b []int
		want bool
	}{
		{nil, nil, false}, {nil, []int{}, false}, {nil, []int{1}, true}, {[]int{}, []int{0}, true}, {[]int{1}, nil, false}, {[]int{1}, []int{1}, false}, {[]int{1}, []int{1, 1}, true}, {[]int{1}, []int{1, 2, 1}, true}, {[]int{1, 1}, []int{1}, false},
		{[]int{1}, []int{3, 1}, false}, {[]int{1, 3}, []int{1, 1, 3}, false}, {[]int{3}, []int{1, 3}, false}, {[]int{1, 1}, []int{1, 3}, false}, {[]int{1}, []int{-1, 1}, false},
		{[]int{2}, []int{2, 1}, true}, {[]int{1, 2}, []int{1, 2, 1}, true}, {[]int{math.MinInt}, []int{math.MinInt, math.MaxInt}, true},
	} {
		if got := Above(l.a, l.b); got != l.want {
			t.Errorf("P12.2: Above(%v, %v): %v", l.a, l.b, got)
		}
	}
}

// lookKids looks for the level between two kids' levels, below some parents; nil stands for no kid.
func lookKids(t *testing.T, l, r, want []int) {
	t.Helper()
	for _, up := range [][]int{nil, {1}, {-3}, {2, 1}, {1, 0, -2, 5, 7}, {far, -1}} {
		kid := func(level []int) []int {
			if level == nil {
				return nil
			}
			return slices.Concat(up, level)
		}
		lookBetween(t, up, kid(l), kid(r), kid(want))
	}
}

func TestP12_3One(t *testing.T) {
	lookKids(t, nil, nil, []int{1})
	for _, l := range []struct{ first, behind, ahead int }{
		{1, 3, -1}, {3, 5, 1}, {-1, 1, -3}, {-3, -1, -5}, {99, 101, 97}, {0, 1, -1}, {2, 3, 1}, {-2, -1, -3}, {-4, -3, -5}, {100, 101, 99}, {far - 2, far - 1, far - 3}, {far - 3, far - 1, far - 5}, {2 - far, 3 - far, 1 - far}, {3 - far, 5 - far, 1 - far},
	} {
		level := []int{l.first}
		if l.first%2 == 0 {
			level = []int{l.first, 4, 7}
		}
		lookKids(t, level, nil, []int{l.behind})
		lookKids(t, nil, level, []int{l.ahead})
	}
	lookKids(t, nil, []int{far, 1}, []int{far - 1})
	lookKids(t, []int{-far, 1}, nil, []int{1 - far})
}

func TestP12_3Two(t *testing.T) {
	for _, l := range [][3][]int{
		// There is an odd number between both.
		{{1}, {3}, {5}}, {{1}, {3}, {99}}, {{1}, {3}, {4, 1}}, {{-3}, {-1}, {1}}, {{-5}, {-3}, {0, 1}}, {{0, 1}, {1}, {3}}, {{0, 9}, {1}, {2, -9}}, {{-2, 1}, {-1}, {0, 1}}, {{-2, 1}, {-1}, {3}}, {{-4, 1}, {-3}, {-1}}, {{2, 1}, {3}, {5}}, {{1 - far}, {3 - far}, {far - 1}}, {{-far, 1}, {1 - far}, {far, 1}},
		{{2, 1}, {2, 3}, {2, 5}}, {{2, 4, 1}, {2, 5}, {2, 6, 1}}, {{0, 0, 0, 1}, {0, 0, 1}, {0, 0, 3}},
		// Both are odd, and side by side.
		{{1}, {2, 1}, {3}}, {{-1}, {0, 1}, {1}}, {{-3}, {-2, 1}, {-1}}, {{2, 1}, {2, 2, 1}, {2, 3}}, {{far - 3}, {far - 2, 1}, {far - 1}}, {{2, 4, -1}, {2, 4, 0, 1}, {2, 4, 1}},
		// The second one is even, and right behind the first one.
		{{1}, {2, -1}, {2, 1}}, {{1}, {2, -3}, {2, -1}}, {{1}, {2, 1}, {2, 3}}, {{1}, {2, 1}, {2, 2, 9}}, {{1}, {2, -1}, {2, 0, 9}}, {{1}, {2, -3}, {2, -2, 9}}, {{-1}, {0, 5}, {0, 6, -9}}, {{-3}, {-2, 5}, {-2, 7}}, {{2, 1}, {2, 2, 5}, {2, 2, 7}}, {{far - 1}, {far, 5}, {far, 7}},
		// The first one is even, and the second one right behind.
		{{2, 1}, {2, 3}, {3}}, {{2, 3}, {2, 5}, {3}}, {{2, -1}, {2, 1}, {3}}, {{2, 2, 1}, {2, 3}, {3}}, {{2, 0, 1}, {2, 1}, {3}}, {{2, -2, 1}, {2, -1}, {3}}, {{-2, 4, 9}, {-2, 5}, {-1}}, {{0, 7}, {0, 9}, {1}}, {{2, 2, 7}, {2, 2, 9}, {2, 3}}, {{-far, 7}, {-far, 9}, {1 - far}},
	} {
		lookKids(t, l[0], l[2], l[1])
	}
}

func TestP12_3Wrong(t *testing.T) {
	wrong := [][]int{{0}, {2}, {1, 2}, {far + 1}, {-far - 1}, {far + 1, 1}, {math.MaxInt}, {math.MinInt, 1}, long(481), long(9999)}
	for _, w := range wrong {
		lookNoRoom(t, w, nil, nil, api.ErrArg)
		lookNoRoom(t, w, append(slices.Clone(w), 1), nil, api.ErrArg)
		lookNoRoom(t, nil, w, nil, api.ErrArg)
		lookNoRoom(t, nil, nil, w, api.ErrArg)
		lookNoRoom(t, nil, w, []int{far - 1}, api.ErrArg)
		lookNoRoom(t, nil, []int{1 - far}, w, api.ErrArg)
		lookNoRoom(t, []int{1}, append([]int{1}, w...), nil, api.ErrArg)
		lookNoRoom(t, []int{1}, nil, append([]int{1}, w...), api.ErrArg)
	}
	// These are right, but kids of others.
	for _, l := range [][]int{{1}, {3}, {3, 1}, {2, 1, 1}, {1, 1, 1}, {1, 2, 1, 3}, {-1, 1}, {2, 1}} {
		lookNoRoom(t, []int{1}, l, nil, api.ErrArg)
		lookNoRoom(t, []int{1}, nil, l, api.ErrArg)
		lookNoRoom(t, []int{1}, l, []int{1, 99}, api.ErrArg)
		lookNoRoom(t, []int{1}, []int{1, -99}, l, api.ErrArg)
	}
	lookNoRoom(t, nil, []int{1, 1}, nil, api.ErrArg)
	lookNoRoom(t, nil, nil, []int{1, 1}, api.ErrArg)
	lookNoRoom(t, []int{1, 1}, []int{1, 3}, nil, api.ErrArg)
	// These don't stand in their order.
	for _, l := range [][2][]int{{{1}, {1}}, {{3}, {1}}, {{2, 1}, {1}}, {{3}, {2, 1}}, {{2, 1}, {2, 1}}, {{2, 3}, {2, 1}}, {{1}, {-1}}} {
		lookNoRoom(t, nil, l[0], l[1], api.ErrArg)
		lookNoRoom(t, []int{5}, append([]int{5}, l[0]...), append([]int{5}, l[1]...), api.ErrArg)
	}
}

func TestP12_3Limits(t *testing.T) {
	lookNoRoom(t, nil, []int{far - 1}, nil, api.ErrLimit)
	lookNoRoom(t, nil, []int{far, 1}, nil, api.ErrLimit)
	lookNoRoom(t, nil, nil, []int{1 - far}, api.ErrLimit)
	lookNoRoom(t, nil, nil, []int{-far, 1}, api.ErrLimit)
	lookNoRoom(t, nil, []int{2, far - 1}, []int{3}, api.ErrLimit)
	lookNoRoom(t, nil, []int{2, far, 1}, []int{3}, api.ErrLimit)
	lookNoRoom(t, nil, []int{1}, []int{2, 1 - far}, api.ErrLimit)
	lookNoRoom(t, nil, []int{1}, []int{2, -far, 1}, api.ErrLimit)
	// A parent of 478 numbers leaves room for 4 bits, one of 479 for 2, one of 480 for none.
	lookBetween(t, long(478), nil, nil, append(long(478), 1))
	lookNoRoom(t, long(478), append(long(478), 1), nil, api.ErrLimit)
	lookBetween(t, long(478), nil, append(long(478), 1), append(long(478), -1))
	lookBetween(t, long(478), nil, append(long(478), -1), append(long(478), -3))
	lookNoRoom(t, long(478), nil, append(long(478), -3), api.ErrLimit)
	lookNoRoom(t, long(478), append(long(478), -1), append(long(478), 1), api.ErrLimit)
	lookNoRoom(t, long(479), nil, nil, api.ErrLimit)
	lookNoRoom(t, long(479), append(long(479), -1), nil, api.ErrLimit)
	lookNoRoom(t, long(479), nil, append(long(479), -1), api.ErrLimit)
	lookNoRoom(t, long(480), nil, nil, api.ErrLimit)
}

// spoil writes into a list, spare room too.
func spoil(l []int) {
	for i := range l[:cap(l)] {
		l[:cap(l)][i] = 1234567
	}
}

func TestP12_4Memory(t *testing.T) {
	numbers := []int{1, 2, 3, 4, 5, 6, 7, 8, 9}
	l, r := []int{1, 2, 4, 5, 6, 7, 9}, []int{1, 2, 4, 6, 1, 77}
	all := [][]int{numbers, l, r}
	keep := [][]int{slices.Clone(numbers), slices.Clone(l), slices.Clone(r)}
	up, l, r := numbers[:1], l[:4], r[:5]
	var told, want [][]int
	for range 2 {
		for _, beside := range [][2][]int{{nil, nil}, {l, nil}, {nil, r}, {l, r}} {
			kid, e := Between(up, beside[0], beside[1])
			if e != api.OK {
				t.Errorf("P12.3: Between(%v, %v): %d", up, beside, e)
			}
			told = append(told, kid)
		}
		kid, _ := Between(nil, numbers[:1], numbers[1:3])
		told = append(told, kid, Up(l), Up(numbers[:3]), Up(numbers[:1]))
	}
	Check(l)
	Level(l)
	Compare(l, r)
	Above(up, l)
	for _, list := range told {
		want = append(want, slices.Clone(list))
	}
	for i, list := range told {
		if !slices.Equal(list, want[i]) {
			t.Fatalf("P12.4: two answers share memory: %v, not %v", list, want[i])
		}
		spoil(list)
		if !slices.EqualFunc(all, keep, slices.Equal) {
			t.Fatalf("P12.4: what was handed in is %v, not %v", all, keep)
		}
	}
}

func TestP12_4MemoryOfBytes(t *testing.T) {
	l := []int{2, 1, 5, 6}[:3]
	a, _ := Bytes(l)
	b, _ := Bytes(l)
	keep := slices.Clone(b)
	for i := range a[:cap(a)] {
		a[:cap(a)][i] = 0xff
	}
	if !slices.Equal(l, []int{2, 1, 5}) || !bytes.Equal(b, keep) {
		t.Error("P12.4: Bytes shares memory")
	}
	room := append(slices.Clone(b), 0xff)
	in := room[:len(b)]
	c, e := Read(in)
	d, f := Read(in)
	if e != api.OK || f != api.OK || !bytes.Equal(room, append(keep, 0xff)) {
		t.Fatalf("P12.4: Read: %d, %d, %x", e, f, room)
	}
	spoil(c)
	clear(room)
	if !slices.Equal(d, l) {
		t.Errorf("P12.4: Read shares memory: %v", d)
	}
}

// labels is the labels of all nodes of a document that is put as it is, each ahead of its kids.
func labels(d api.Node) (paths [][]int, all [][]int) {
	for path := range tree.All(d) {
		l := []int{}
		for _, kid := range path {
			l = append(l, 2*kid+1)
		}
		paths, all = append(paths, path), append(all, l)
	}
	return paths, all
}

// lookSame looks whether labels and paths mean the same nodes, in the same order.
func lookSame(t *testing.T, paths, all [][]int) {
	t.Helper()
	for i, a := range all {
		b, e := Bytes(a)
		if back, f := Read(b); e != api.OK || f != api.OK || !slices.Equal(back, a) || Level(a) != len(paths[i]) {
			t.Fatalf("P5: %v, of the node at %v: %d, %d, %v", a, paths[i], e, f, back)
		}
		one := trail.Trail{Steps: paths[i]}
		for k, c := range all {
			other := trail.Trail{Steps: paths[k]}
			above := i != k && trail.Under(one, other)
			up, ok := trail.Up(other)
			isUp := ok && trail.Compare(up, one) == 0
			isParent := slices.Equal(Up(c), a) && len(c) > 0
			if Compare(a, c) != trail.Compare(one, other) || Above(a, c) != above || isParent != isUp {
				t.Fatalf("P5: the labels %v, %v of the nodes at %v, %v", a, c, paths[i], paths[k])
			}
		}
	}
}

func TestP5Documents(t *testing.T) {
	dice := Dice(12)
	for range 60 {
		paths, all := labels(dice.Document())
		lookSame(t, paths, all)
	}
}

// TestP5Edits: below a document's element kids come and go anywhere; the labels of those that stay stay, and go on to mean what their paths do.
func TestP5Edits(t *testing.T) {
	dice := Dice(13)
	for range 40 {
		d := Doc(Elem("a"))
		up := []int{1}
		var kids [][]int
		for range 60 {
			at := dice.Under(len(kids) + 1)
			change := edit.Edit{Op: edit.Insert, At: []int{0, at}, Node: Comment("x")}
			if dice.OneIn(4) && at < len(kids) {
				change.Op = edit.Delete
				kids = slices.Delete(kids, at, at+1)
			} else {
				kids = slices.Insert(kids, at, newKid(t, up, kids, at))
			}
			var e api.Errno
			if d, e = edit.Apply(d, change); e != api.OK {
				t.Fatalf("%d", e)
			}
		}
		paths, _ := labels(d)
		lookSame(t, paths, append([][]int{{}, up}, kids...))
	}
}

// newKid is the label of a kid that comes in among others.
func newKid(t *testing.T, up []int, kids [][]int, at int) []int {
	t.Helper()
	l, e := Between(up, kidAt(kids, at-1), kidAt(kids, at))
	if e != api.OK {
		t.Fatalf("P5: no room at %d of %v: %d", at, kids, e)
	}
	return l
}

func kidAt(kids [][]int, at int) []int {
	if at < 0 || at >= len(kids) {
		return nil
	}
	return kids[at]
}

// TestP5Room: there is room between any two, until a label would be too long, wherever the next kid comes.
func TestP5Room(t *testing.T) {
	for name, next := range map[string]func(last, many int) int{
		"behind the first": func(last, many int) int { return 1 },
		"ahead of the end": func(last, many int) int { return many - 1 },
		"to and fro":       func(last, many int) int { return last + many%2 },
		"behind the last":  func(last, many int) int { return last + 1 - last/many },
		"in the middle":    func(last, many int) int { return many / 2 },
	} {
		kids := [][]int{{1}, {3}}
		at, came := 1, 0
		for ; came < 5000; came++ {
			l, r := kids[at-1], kids[at]
			kid, e := Between(nil, l, r)
			if e == api.ErrLimit {
				b, _ := Bytes(l)
				c, _ := Bytes(r)
				if max(len(b), len(c)) < api.MaxLabel-8 {
					t.Errorf("P5: %s: no room between %v and %v", name, l, r)
				}
				break
			}
			if e != api.OK || Check(kid) != api.OK || Compare(l, kid) >= 0 || Compare(kid, r) >= 0 || len(Up(kid)) != 0 {
				t.Fatalf("P5: %s: %v between %v and %v: %d", name, kid, l, r, e)
			}
			kids = slices.Insert(kids, at, kid)
			at = min(max(next(at, len(kids)), 1), len(kids)-1)
		}
		if came < 100 {
			t.Errorf("P5: %s: room for %d alone", name, came)
		}
	}
}
