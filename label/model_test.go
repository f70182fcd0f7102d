package label

import (
	"bytes"
	"math"
	"slices"
	"strconv"
	"strings"
	"testing"

	"lectern/api"
	"lectern/sample"
)

// The model writes bits as texts of noughts and ones.

var turnAbout = strings.NewReplacer("0", "1", "1", "0")

func modelRow(n int) string {
	digits := strconv.FormatInt(int64(n), 2)
	return strings.Repeat("1", len(digits)-1) + "0" + digits[1:]
}

func modelBits(l []int) string {
	var w strings.Builder
	for _, v := range l {
		if v >= 0 {
			w.WriteString("1" + modelRow(v+1))
		} else {
			w.WriteString("0" + turnAbout.Replace(modelRow(-v)))
		}
	}
	return w.String()
}

func modelBytes(l []int) ([]byte, api.Errno) {
	for i, v := range l {
		if v > 1073741824 || v < -1073741824 || i == len(l)-1 && v%2 == 0 {
			return nil, api.ErrForm
		}
	}
	s := modelBits(l)
	for len(s)%8 != 0 {
		s += "0"
	}
	if len(s) > 960 {
		return nil, api.ErrLimit
	}
	var out []byte
	for ; s != ""; s = s[8:] {
		b, _ := strconv.ParseUint(s[:8], 2, 8)
		out = append(out, byte(b))
	}
	return out, api.OK
}

func isRight(l []int) bool {
	_, e := modelBytes(l)
	return e == api.OK
}

// levels is where a list's levels end.
func levels(l []int) []int {
	var ends []int
	for i, v := range l {
		if v%2 != 0 {
			ends = append(ends, i+1)
		}
	}
	return ends
}

// modelUp goes from the begin on: to the last level that ends ahead of the last number.
func modelUp(l []int) []int {
	var up []int
	for _, end := range levels(l) {
		if end < len(l) {
			up = l[:end]
		}
	}
	return up
}

func modelCompare(a, b []int) int {
	for i := 0; ; i++ {
		switch {
		case i == len(a) && i == len(b):
			return 0
		case i == len(a):
			return -1
		case i == len(b):
			return 1
		case a[i] < b[i]:
			return -1
		case a[i] > b[i]:
			return 1
		}
	}
}

func modelAbove(a, b []int) bool {
	return len(a) != len(b) && modelCompare(a, b[:min(len(a), len(b))]) == 0
}

func more(c int) int {
	if c%2 == 0 {
		return c + 1
	}
	return c + 2
}

func less(c int) int {
	if c%2 == 0 {
		return c - 1
	}
	return c - 2
}

// modelLevel is what stands behind up in what Between tells, of two kids.
func modelLevel(l, r []int) []int {
	if l[0] == r[0] {
		return append([]int{l[0]}, modelLevel(l[1:], r[1:])...)
	}
	x, y := l[0], r[0]
	for odd := x + 1; odd < y && odd < x+5; odd++ {
		if odd%2 != 0 {
			return []int{odd}
		}
	}
	switch {
	case y == x+2:
		return []int{x + 1, 1}
	case x%2 != 0:
		return []int{y, less(r[1])}
	}
	return []int{x, more(l[1])}
}

func modelBetween(up, l, r []int) ([]int, api.Errno) {
	wrong := func(kid []int) bool {
		return len(kid) > 0 && (!isRight(kid) || !slices.Equal(modelUp(kid), up))
	}
	if !isRight(up) || wrong(l) || wrong(r) || len(l) > 0 && len(r) > 0 && modelCompare(l, r) != -1 {
		return nil, api.ErrArg
	}
	level := []int{1}
	switch {
	case len(l) > 0 && len(r) > 0:
		level = modelLevel(l[len(up):], r[len(up):])
	case len(l) > 0:
		level[0] = more(l[len(up)])
	case len(r) > 0:
		level[0] = less(r[len(up)])
	}
	kid := slices.Concat(up, level)
	if !isRight(kid) {
		return nil, api.ErrLimit
	}
	return kid, api.OK
}

// lookModel holds all calls against the model, for one list and for two.
func lookModel(t *testing.T, a, b []int) {
	t.Helper()
	want, e := modelBytes(a)
	if got := Check(a); got != e {
		t.Fatalf("P12.1: Check(%s): %d, not %d", short(a), got, e)
	}
	got, f := Bytes(a)
	if !bytes.Equal(got, want) || f != e {
		t.Fatalf("P12.1: Bytes(%s): %x, %d, not %x, %d", short(a), got, f, want, e)
	}
	if l, f := Read(want); e == api.OK && (!slices.Equal(l, a) || f != api.OK) {
		t.Fatalf("P12.1: Read(%x): %s, %d, not %s", want, short(l), f, short(a))
	}
	if got := Compare(a, b); got != modelCompare(a, b) {
		t.Fatalf("P12.2: Compare(%s, %s): %d", short(a), short(b), got)
	}
	if got := Level(a); got != len(levels(a)) {
		t.Fatalf("P12.2: Level(%s): %d", short(a), got)
	}
	if got := Up(a); !slices.Equal(got, modelUp(a)) {
		t.Fatalf("P12.2: Up(%s): %s", short(a), short(got))
	}
	if got := Above(a, b); got != modelAbove(a, b) {
		t.Fatalf("P12.2: Above(%s, %s): %v", short(a), short(b), got)
	}
}

// lookBetweenModel holds Between against the model, and what it tells against what it should be.
func lookBetweenModel(t *testing.T, up, l, r []int) api.Errno {
	t.Helper()
	want, e := modelBetween(up, l, r)
	got, f := Between(up, l, r)
	if !slices.Equal(got, want) || f != e {
		t.Fatalf("P12.3: Between(%s, %s, %s): %s, %d, not %s, %d", short(up), short(l), short(r), short(got), f, short(want), e)
	}
	if e != api.OK {
		return e
	}
	isBehind := len(l) == 0 || Compare(l, got) == -1
	isAhead := len(r) == 0 || Compare(got, r) == -1
	if Check(got) != api.OK || !slices.Equal(Up(got), up) || !isBehind || !isAhead {
		t.Fatalf("P12.4: Between(%s, %s, %s): %s", short(up), short(l), short(r), short(got))
	}
	return e
}

// drawnNumber is a small one, or one at an edge.
func drawnNumber(d *sample.Dice) int {
	switch {
	case d.OneIn(9):
		return []int{far, -far, far - 1, 1 - far, far - 2, 2 - far, 1 << 29, 65535}[d.Under(8)]
	case d.OneIn(150):
		return []int{far + 1, -far - 1, math.MaxInt, math.MinInt, 1 << 32}[d.Under(5)]
	case d.OneIn(5):
		return d.Under(100000) - 50000
	}
	return d.Under(9) - 4
}

// drawnLevel is some even numbers and an odd one.
func drawnLevel(d *sample.Dice) []int {
	var l []int
	for d.OneIn(2) {
		l = append(l, drawnNumber(d)&^1)
	}
	return append(l, drawnNumber(d)|1)
}

// drawnList is any list, mostly some levels.
func drawnList(d *sample.Dice) []int {
	var l []int
	for range d.Under(6) {
		l = append(l, drawnLevel(d)...)
	}
	switch {
	case d.OneIn(10):
		l = append(l, drawnNumber(d))
	case d.OneIn(9):
		l = slices.Concat(l, l, l, l, l)
	}
	return l
}

func TestModelOfLists(t *testing.T) {
	dice := sample.Dice(121)
	for range 20000 {
		a, b := drawnList(&dice), drawnList(&dice)
		if dice.OneIn(3) {
			b = slices.Concat(a[:dice.Under(len(a)+1)], b)
		}
		lookModel(t, a, b)
		lookModel(t, b, a)
	}
}

func TestModelOfBetween(t *testing.T) {
	dice := sample.Dice(122)
	ends := map[api.Errno]int{}
	for range 80000 {
		up := drawnList(&dice)
		if dice.OneIn(9) { // hardly any room is left
			level := drawnLevel(&dice)
			up = slices.Repeat(level, max(960/len(modelBits(level))-dice.Under(3), 0))
		}
		kid := func() []int { return slices.Concat(up, drawnLevel(&dice)) }
		l, r := kid(), kid()
		if dice.OneIn(2) { // both begin alike
			even := dice.Under(len(l)-len(up)) + len(up)
			r = slices.Concat(l[:even], drawnLevel(&dice))
		}
		switch {
		case modelCompare(l, r) > 0 && !dice.OneIn(9):
			l, r = r, l
		case dice.OneIn(9):
			l = nil
		case dice.OneIn(9):
			r = nil
		case dice.OneIn(20):
			l = drawnList(&dice)
		case dice.OneIn(20):
			r = drawnList(&dice)
		case dice.OneIn(20):
			up = drawnList(&dice)
		}
		ends[lookBetweenModel(t, up, l, r)]++
	}
	for _, e := range []api.Errno{api.OK, api.ErrArg, api.ErrLimit} {
		if ends[e] < 100 {
			t.Errorf("%d was drawn %d times alone", e, ends[e])
		}
	}
}

// allLabels is all labels whose bits are at most so many.
func allLabels(bits int) [][]int {
	out := [][]int{nil}
	var grow func(l []int, left int)
	grow = func(l []int, left int) {
		beyond := 1 << (left / 2)
		for v := -beyond; v <= beyond; v++ {
			used := len(modelBits([]int{v}))
			if used > left {
				continue
			}
			next := append(slices.Clone(l), v)
			if v%2 != 0 {
				out = append(out, next)
			}
			grow(next, left-used)
		}
	}
	grow(nil, bits)
	return out
}

// TestP12_1AllShort: of all rows of at most two bytes those are labels that a right label has, and no others.
func TestP12_1AllShort(t *testing.T) {
	all := map[string][]int{}
	for _, l := range allLabels(16) {
		b, e := Bytes(l)
		if other, twice := all[string(b)]; e != api.OK || twice {
			t.Fatalf("P12.4: %v and %v have the bytes %x (%d)", l, other, b, e)
		}
		all[string(b)] = l
	}
	look := func(b []byte) {
		want, right := all[string(b)]
		if l, e := Read(b); !slices.Equal(l, want) || (e == api.OK) != right || !right && e != api.ErrForm {
			t.Fatalf("P12.1: Read(%x): %v, %d, not %v", b, l, e, want)
		}
	}
	look(nil)
	look([]byte{})
	for i := range 1 << 16 {
		look([]byte{byte(i >> 8), byte(i)})
		if i < 1<<8 {
			look([]byte{byte(i)})
		}
	}
}

// TestP12_4Order: bytes stand in the order of their labels.
func TestP12_4Order(t *testing.T) {
	lists := allLabels(10)
	dice := sample.Dice(123)
	for len(lists) < 1500 {
		l := drawnList(&dice)
		if dice.OneIn(2) {
			other := lists[dice.Under(len(lists))]
			l = slices.Concat(other[:dice.Under(len(other)+1)], l)
		}
		if isRight(l) {
			lists = append(lists, l)
		}
	}
	slices.SortFunc(lists, modelCompare)
	lists = slices.CompactFunc(lists, slices.Equal)
	var rows [][]byte
	for _, l := range lists {
		b, e := Bytes(l)
		if e != api.OK {
			t.Fatalf("P12.1: Bytes(%v): %d", l, e)
		}
		rows = append(rows, b)
	}
	for i := range rows {
		for k := range i {
			if bytes.Compare(rows[k], rows[i]) != -1 || Compare(lists[k], lists[i]) != -1 || Compare(lists[i], lists[k]) != 1 {
				t.Fatalf("P12.4: %v: %x, %v: %x", lists[k], rows[k], lists[i], rows[i])
			}
		}
	}
}

// TestP12_3AllSmall: between any two levels of small numbers.
func TestP12_3AllSmall(t *testing.T) {
	var all [][]int
	for v := -5; v <= 5; v++ {
		if v%2 != 0 {
			all = append(all, []int{v})
			continue
		}
		for w := -3; w <= 3; w++ {
			if w%2 != 0 {
				all = append(all, []int{v, w})
				continue
			}
			for x := -1; x <= 1; x += 2 {
				all = append(all, []int{v, w, x})
			}
		}
	}
	for _, up := range [][]int{nil, {1}, {2, -1, 3}} {
		for _, l := range all {
			l = slices.Concat(up, l)
			lookBetweenModel(t, up, l, nil)
			lookBetweenModel(t, up, nil, l)
			for _, r := range all {
				lookBetweenModel(t, up, l, slices.Concat(up, r))
			}
		}
	}
}

// TestP1: whatever comes, each call ends, and answers the same when it is asked again.
func TestP1(t *testing.T) {
	dice := sample.Dice(124)
	wild := func() []int {
		l := drawnList(&dice)
		for i := range l {
			if dice.OneIn(4) {
				l[i] = []int{math.MinInt, math.MaxInt, math.MinInt + 1, 0, -1, far, far + 1, 1 << 62}[dice.Under(8)]
			}
		}
		return l
	}
	for range 20000 {
		up, l, r := wild(), wild(), wild()
		if dice.OneIn(2) {
			l, r = slices.Concat(up, l), slices.Concat(up, r)
		}
		lookModel(t, l, r)
		lookBetweenModel(t, up, l, r)
		lookBetweenModel(t, l[:dice.Under(len(l)+1)], l, r)
	}
	for range 20000 {
		b := make([]byte, dice.Under(20))
		for i := range b {
			b[i] = []byte{0x00, 0xff, 0xcc, byte(dice.Under(256))}[dice.Under(4)]
		}
		l, e := Read(b)
		again, f := Read(b)
		if !slices.Equal(l, again) || e != f || e != api.OK && (e != api.ErrForm || len(l) > 0) {
			t.Fatalf("Read(%x): %v, %d, %v, %d", b, l, e, again, f)
		}
		if back, f := modelBytes(l); e == api.OK && (f != api.OK || !bytes.Equal(back, b)) {
			t.Fatalf("P12.1: Read(%x): %v", b, l)
		}
	}
}

// TestP1Long: lists and rows of bytes may be far longer than a label.
func TestP1Long(t *testing.T) {
	many := make([]int, 1000000)
	if Check(many) != api.ErrForm || len(Up(many)) != 0 || Level(many) != 0 || Compare(many, many[1:]) != 1 || !Above(many[1:], many) {
		t.Error("a long list of noughts")
	}
	odd := append(many, 1)
	if Check(odd) != api.ErrLimit || len(Up(odd)) != 0 || Level(odd) != 1 {
		t.Error("a long list with an odd end")
	}
	lookNoRoom(t, odd, nil, nil, api.ErrArg)
	lookNoRoom(t, nil, odd, nil, api.ErrArg)
	lookNoRoom(t, nil, nil, odd, api.ErrArg)
	lookNoRoom(t, odd, odd, odd, api.ErrArg)
	for _, b := range []byte{0x00, 0xff, 0xaa, 0xcc, 0x55} {
		if l, e := Read(bytes.Repeat([]byte{b}, 10000000)); len(l) != 0 || e != api.ErrForm {
			t.Errorf("P12.1: a long row of %x: %d", b, e)
		}
	}
}
