package trace

import (
	"math"
	"slices"
	"strings"
	"testing"

	"lectern/api"
)

func open(spots ...complex128) Stroke { return Stroke{Spots: spots} }

func closed(spots ...complex128) Stroke { return Stroke{spots, true} }

func same(a, b []Stroke) bool {
	return slices.EqualFunc(a, b, func(s, t Stroke) bool {
		return s.Closed == t.Closed && slices.Equal(s.Spots, t.Spots)
	})
}

func drawn(t *testing.T, s string) []Stroke {
	t.Helper()
	f, at, e := Read(s)
	if e != api.OK || at != 0 {
		t.Fatalf("Read(%q): %d, %d", s, at, e)
	}
	return f
}

func lookFigure(t *testing.T, s string, want ...Stroke) {
	t.Helper()
	if f, at, e := Read(s); !same(f, want) || at != 0 || e != api.OK {
		t.Errorf("P10.1: Read(%q): %v, %d, %d, not %v", s, f, at, e, want)
	}
}

func lookFault(t *testing.T, s string, place int, want api.Errno) {
	t.Helper()
	if f, at, e := Read(s); len(f) != 0 || at != place || e != want {
		t.Errorf("P10.1: Read(%.60q): %v, %d, %d, not %d, %d", s, f, at, e, place, want)
	}
}

func lookText(t *testing.T, f []Stroke, want string) {
	t.Helper()
	if s, e := Show(f); s != want || e != api.OK {
		t.Errorf("P10.2: Show(%v): %q, %d, not %q", f, s, e, want)
	}
	if back, at, e := Read(want); !same(back, f) || at != 0 || e != api.OK {
		t.Errorf("P10.5: Read(%q): %v, %d, %d, not %v", want, back, at, e, f)
	}
}

func lookRound(t *testing.T, f []Stroke, p complex128, want int, wantOn bool) {
	t.Helper()
	if n, on, e := Around(f, p); n != want || on != wantOn || e != api.OK {
		t.Errorf("P10.4: Around(%v, %v): %d, %v, %d, not %d, %v", f, p, n, on, e, want, wantOn)
	}
}

func lookArea(t *testing.T, f []Stroke, want float64) {
	t.Helper()
	if area, e := Area(f); area != want || e != api.OK {
		t.Errorf("P10.4: Area(%v): %v, %d, not %v", f, area, e, want)
	}
}

const square = "M 0 0 L 4 0 L 4 4 L 0 4 Z"

func TestExamples(t *testing.T) {
	first := drawn(t, "m1 1 2,0h-2z M5-5")
	if want := []Stroke{closed(1+1i, 3+1i, 1+1i), open(5 - 5i)}; !same(first, want) {
		t.Errorf("%v, not %v", first, want)
	}
	lookText(t, first, "M 1 1 L 3 1 L 1 1 Z M 5 -5")
	lookFault(t, "L 1 1", 0, api.ErrFigure)
	lookFault(t, "M 1", 3, api.ErrFigure)
	lookFault(t, "M 1 1 Z L 2 2", 8, api.ErrFigure)
	lookFault(t, "M 0 1000001", 4, api.ErrLimit)
	lookFault(t, "M1.5 2", 2, api.ErrFigure)
	f := drawn(t, square)
	lookArea(t, f, 32)
	lookRound(t, f, 1+1i, 1, false)
	lookRound(t, f, 4+2i, 0, true)
	lookRound(t, f, 5+1i, 0, false)
	if turned, e := Turn(f, 1i, 0); e != api.OK || !same(turned, []Stroke{closed(0, 4i, -4+4i, -4)}) {
		t.Errorf("Turn: %v, %d", turned, e)
	}
}

func TestP10_1Letters(t *testing.T) {
	lookFigure(t, "")
	lookFigure(t, " \t\r\n,,")
	lookFigure(t, "M1 2", open(1+2i))
	lookFigure(t, "m1 2", open(1+2i))
	lookFigure(t, "M1 2z", closed(1+2i))
	lookFigure(t, "M1 2 3 4 5 6", open(1+2i, 3+4i, 5+6i))
	lookFigure(t, "m1 2 3 4 5 6", open(1+2i, 4+6i, 9+12i))
	lookFigure(t, "M1 2L3 4 5 6", open(1+2i, 3+4i, 5+6i))
	lookFigure(t, "M1 2l3 4 5 6", open(1+2i, 4+6i, 9+12i))
	lookFigure(t, "M1 2H7 8 -9", open(1+2i, 7+2i, 8+2i, -9+2i))
	lookFigure(t, "M1 2h7 8 -9", open(1+2i, 8+2i, 16+2i, 7+2i))
	lookFigure(t, "M1 2V7 8 -9", open(1+2i, 1+7i, 1+8i, 1-9i))
	lookFigure(t, "M1 2v7 8 -9", open(1+2i, 1+9i, 1+17i, 1+8i))
	lookFigure(t, "M1 2H3V4h5v6", open(1+2i, 3+2i, 3+4i, 8+4i, 8+10i))
	lookFigure(t, "M1 2M3 4", open(1+2i), open(3+4i))
	lookFigure(t, "M1 2 9 9m3 4", open(1+2i, 9+9i), open(12+13i))
	// Behind a closed stroke the pen stands at its first spot.
	lookFigure(t, "M1 2 9 9zm3 4", closed(1+2i, 9+9i), open(4+6i))
	lookFigure(t, "m1 2 3 4 Z m1 1 1 1 z m1 1", closed(1+2i, 4+6i), closed(2+3i, 3+4i), open(3+4i))
	lookFigure(t, "M1 2zM0 0Z", closed(1+2i), closed(0))
}

func TestP10_1Numbers(t *testing.T) {
	lookFigure(t, "M+1-2+3+4", open(1-2i, 3+4i))
	lookFigure(t, "M0000001-0000002", open(1-2i))
	lookFigure(t, "M-0+0", open(0))
	lookFigure(t, "M1000000-1000000", open(1000000-1000000i))
	lookFigure(t, "\r\n,M,\t1,,2,\n, L 3,4\tz ,", closed(1+2i, 3+4i))
	lookFigure(t, "m1000000 1000000h-2000000v-2000000", open(1000000+1000000i, -1000000+1000000i, -1000000-1000000i))
	f := drawn(t, "M-0 -0h-0")
	for _, z := range f[0].Spots {
		if math.Signbit(real(z)) || math.Signbit(imag(z)) {
			t.Error("a 0 has a sign")
		}
	}
}

func TestP10_1Figure(t *testing.T) {
	for s, place := range map[string]int{
		// what is no letter and no number
		"x": 0, " x": 1, "M1 2x": 4, "M1 2 x": 5, "Mx": 1, "M1x": 2, "M1 2 3x": 6, "M1 2z.": 5, "M1 2\x00": 4, "M1\x0b2": 2, "M1\xa02": 2, "M1é2": 2, "\xff": 0, "M1 2;": 4, "M1e2 3": 2, "M1 2C3 4": 4, "M1 2/": 4, "M1 2:": 4, "M1 ٣": 3,
		"M1 -": 3, "M1 +": 3, "M-": 1, "M1 2-": 4, "M- 1 2": 1, "M+-1 2": 1, "M--1 2": 1, "M1+,2": 2, "M1 2 3 - 4": 7,
		"M12345678 1": 1, "M1 12345678": 3, "M1 -12345678": 3, "M1 +00000000": 3, "M1 2 12345678": 5, "M1 2H12345678": 5, "M1 123456789012345678901234567890": 3,
		// what may not stand there
		"1": 0, "-1": 0, " 12345678": 1, "Z": 0, "z": 0, "L1 1": 0, "l1 1": 0, "H1": 0, "h1": 0, "V1": 0, "v1": 0, ",,H1": 2,
		"M1 2ZZ": 5, "M1 2z z": 6, "M1 2zL1 1": 5, "M1 2zl1 1": 5, "M1 2zH1": 5, "M1 2zh1": 5, "M1 2zV1": 5, "M1 2zv1": 5, "M1 2z1 2": 5, "M1 2z -1": 6,
		"MM1 2": 1, "M1M1 2": 2, "M1 2 3M4 5": 6, "M1 2 3 z": 7, "MZ": 1, "M1Z": 2, "M1 2LZ": 5, "M1 2L1Z": 6, "M1 2L1 2 3Z": 10, "M1 2HZ": 5, "M1 2VZ": 5, "M1 2hv1": 5, "M1 2vh1": 5, "M1 2LL1 1": 5,
		// what ends too early
		"M": 1, "M ": 2, "M1": 2, "M1,": 3, "M1 2 3": 6, "M1 2 3 ": 7, "m": 1, "m1": 2, "M1 2L": 5, "M1 2L1": 6, "M1 2L1 2 3": 10, "M1 2l": 5, "M1 2l3": 6, "M1 2H": 5, "M1 2h": 5, "M1 2V": 5, "M1 2v\n": 6, "M1 2zM": 6,
	} {
		lookFault(t, s, place, api.ErrFigure)
	}
}

func TestP10_1Limits(t *testing.T) {
	for s, place := range map[string]int{
		"M1000001 0": 9, "M-1000001 0": 10, "M0-1000001": 2, "M9999999-9999999": 8,
		"M0 0H1000001": 5, "M0 0V-1000001": 5, "M0 0h1000001": 5, "M0 0L1 0 0 1000001 5 5": 11,
		"M0 1000000 1 2 1000001 3": 23, "M1000000 0h1": 11, "M-1000000 0h-1": 12, "M0 1000000v1": 11, "M1000000 1l0 0 1 -1": 17, "m1000000 1 1 0": 13,
		"M0 0h600000 400000 1": 19, "M0 1000001x": 3, "M0 1000001.5": 3, "M1000000 1zm1 0": 14,
	} {
		lookFault(t, s, place, api.ErrLimit)
	}
	// What says no whole spot isn't yet beyond the limits.
	lookFault(t, "M1000001", 8, api.ErrFigure)
	lookFault(t, "M1000001z", 8, api.ErrFigure)
	lookFault(t, "M1000001 -", 9, api.ErrFigure)
	lookFault(t, "x M0 1000001", 0, api.ErrFigure)
}

func TestP10_1Spots(t *testing.T) {
	if f := drawn(t, "M0 0"+strings.Repeat("h1", 499)); len(f) != 1 || len(f[0].Spots) != 500 || f[0].Spots[499] != 499 {
		t.Errorf("P10.1: %v", f)
	}
	if f := drawn(t, strings.Repeat("M1 2z", 500)); len(f) != 500 || !same(f[499:], []Stroke{closed(1 + 2i)}) {
		t.Errorf("P10.1: %d strokes", len(f))
	}
	drawn(t, "M"+strings.Repeat("1 2 ", 500)+"Z")
	lookFault(t, "M0 0"+strings.Repeat("h1", 500), 4+2*500-1, api.ErrLimit)
	lookFault(t, strings.Repeat("M1 2z", 500)+"M3 4", 2503, api.ErrLimit)
	lookFault(t, "M"+strings.Repeat("1 2 ", 501), 1+4*500+2, api.ErrLimit)
	lookFault(t, "M"+strings.Repeat("1 2 ", 500)+"3", 2002, api.ErrFigure)
	lookFault(t, "M"+strings.Repeat("1 2 ", 500)+"3x", 2002, api.ErrFigure)
	lookFault(t, "M"+strings.Repeat("1 2 ", 500)+"3 4x", 2003, api.ErrLimit)
}

// wrong is figures that aren't right.
func wrong() map[string][]Stroke {
	many := make([]complex128, 500)
	return map[string][]Stroke{
		"no spot":            {{}},
		"no spot, closed":    {{Closed: true}},
		"no spot behind":     {open(1), {Spots: []complex128{}}},
		"a half":             {open(0.5)},
		"a half up":          {open(0, 1-0.5i)},
		"too great":          {open(1000001)},
		"too small":          {open(-1000001)},
		"too great up":       {closed(0, 1, 1000001i)},
		"too small up":       {open(0), open(1 - 1000001i)},
		"no number":          {open(complex(math.NaN(), 0))},
		"no number up":       {open(complex(0, math.NaN()))},
		"without end":        {open(complex(math.Inf(1), 0))},
		"without end down":   {open(complex(0, math.Inf(-1)))},
		"nearly whole":       {open(complex(math.Nextafter(1, 2), 0))},
		"the least":          {open(complex(math.SmallestNonzeroFloat64, 0))},
		"far beyond":         {open(complex(math.MaxFloat64, 1e300))},
		"too many":           {open(append(many, 1)...)},
		"too many in all":    {closed(many...), open(1)},
		"many in two":        {open(many[:250]...), open(many[:251]...)},
		"wrong behind right": {closed(0, 4, 4i), open(1.25)},
	}
}

func TestErrArg(t *testing.T) {
	for what, f := range wrong() {
		if s, e := Show(f); s != "" || e != api.ErrArg {
			t.Errorf("P10.2: Show, %s: %q, %d", what, s, e)
		}
		if out, e := Turn(f, 1, 0); len(out) != 0 || e != api.ErrArg {
			t.Errorf("P10.3: Turn, %s: %v, %d", what, out, e)
		}
		if lo, hi, e := Box(f); lo != 0 || hi != 0 || e != api.ErrArg {
			t.Errorf("P10.3: Box, %s: %v, %v, %d", what, lo, hi, e)
		}
		if area, e := Area(f); area != 0 || e != api.ErrArg {
			t.Errorf("P10.4: Area, %s: %v, %d", what, area, e)
		}
		if n, on, e := Around(f, 0); n != 0 || on || e != api.ErrArg {
			t.Errorf("P10.4: Around, %s: %d, %v, %d", what, n, on, e)
		}
	}
	for _, z := range []complex128{0.5, 0.5i, 1000001, -1000001i, complex(math.NaN(), 0), complex(0, math.Inf(1))} {
		for _, f := range [][]Stroke{nil, drawn(t, square)} {
			if out, e := Turn(f, z, 0); len(out) != 0 || e != api.ErrArg {
				t.Errorf("P10.3: Turn by %v: %v, %d", z, out, e)
			}
			if out, e := Turn(f, 1, z); len(out) != 0 || e != api.ErrArg {
				t.Errorf("P10.3: Turn, moved by %v: %v, %d", z, out, e)
			}
			if n, on, e := Around(f, z); n != 0 || on || e != api.ErrArg {
				t.Errorf("P10.4: Around %v: %d, %v, %d", z, n, on, e)
			}
		}
	}
}

func TestP10_2(t *testing.T) {
	lookText(t, nil, "")
	lookText(t, []Stroke{open(0)}, "M 0 0")
	lookText(t, []Stroke{closed(-1 + 10i)}, "M -1 10 Z")
	lookText(t, []Stroke{closed(1000000-1000000i, 0, 0), closed(100), open(-7i, 7)}, "M 1000000 -1000000 L 0 0 L 0 0 Z M 100 0 Z M 0 -7 L 7 0")
	least := math.Copysign(0, -1)
	if s, e := Show([]Stroke{open(complex(least, least))}); s != "M 0 0" || e != api.OK {
		t.Errorf("P10.2: a 0 with a sign: %q, %d", s, e)
	}
	many := make([]complex128, 500)
	lookText(t, []Stroke{open(many...)}, "M 0 0"+strings.Repeat(" L 0 0", 499))
}

func TestP10_3Turn(t *testing.T) {
	f := []Stroke{closed(0, 4, 4+4i), open(-1 - 2i)}
	for _, c := range []struct {
		w, d complex128
		want []Stroke
	}{
		{1, 0, f},
		{1, 3 - 1i, []Stroke{closed(3-1i, 7-1i, 7+3i), open(2 - 3i)}},
		{1i, 1, []Stroke{closed(1, 1+4i, -3+4i), open(3 - 1i)}},
		{0, 7i, []Stroke{closed(7i, 7i, 7i), open(7i)}},
		{2 + 3i, -1, []Stroke{closed(-1, 7+12i, -5+20i), open(3 - 7i)}},
		{1000000, 0, nil},
		{250000, 0, []Stroke{closed(0, 1000000, 1000000+1000000i), open(-250000 - 500000i)}},
		{250000, 1, nil},
		{-250000, 1, []Stroke{closed(1, -999999, -999999-1000000i), open(250001 + 500000i)}},
		{250000, -1i, []Stroke{closed(-1i, 1000000-1i, 1000000+999999i), open(-250000 - 500001i)}},
		{250000, 1i, nil},
		{-250000, -1, nil},
		{-250000, -1i, nil},
		{1, 1000000, nil},
	} {
		want := api.OK
		if c.want == nil {
			want = api.ErrLimit
		}
		if out, e := Turn(f, c.w, c.d); !same(out, c.want) || e != want {
			t.Errorf("P10.3: Turn by %v and %v: %v, %d, not %v", c.w, c.d, out, e, c.want)
		}
	}
	if out, e := Turn(nil, 1000000, 1000000); len(out) != 0 || e != api.OK {
		t.Errorf("P10.3: Turn of nothing: %v, %d", out, e)
	}
	if out, e := Turn([]Stroke{open(1000000 + 1000000i)}, 1000000-1000000i, 1000000i); len(out) != 0 || e != api.ErrLimit {
		t.Errorf("P10.3: Turn of the greatest: %v, %d", out, e)
	}
}

func TestP10_3Box(t *testing.T) {
	for s, want := range map[string][2]complex128{
		"M3 -4":                           {3 - 4i, 3 - 4i},
		square:                            {0, 4 + 4i},
		"M1 9 2 8 3 7z M-5 8":             {-5 + 7i, 3 + 9i},
		"M5 5 M-1000000 3 M6 1000000 7 1": {-1000000 + 1i, 7 + 1000000i},
		"M-1 -2 -3 -1":                    {-3 - 2i, -1 - 1i},
	} {
		if lo, hi, e := Box(drawn(t, s)); lo != want[0] || hi != want[1] || e != api.OK {
			t.Errorf("P10.3: Box of %s: %v, %v, %d", s, lo, hi, e)
		}
	}
	for _, f := range [][]Stroke{nil, {}} {
		if lo, hi, e := Box(f); lo != 0 || hi != 0 || e != api.ErrNone {
			t.Errorf("P10.3: Box of nothing: %v, %v, %d", lo, hi, e)
		}
	}
}

func TestP10_4Area(t *testing.T) {
	for s, want := range map[string]float64{
		"":                                  0,
		"M3 4z":                             0,
		"M3 4 5 6z":                         0,
		"M0 0 1 0 0 1z":                     1,
		"M0 0 0 1 1 0z":                     -1,
		"M0 0 1 0 0 1":                      0, // it isn't closed
		"M0 0 1 0 0 1z M9 9 9 7 7 7 7 9z":   1 - 8,
		"M0 0 1 0 0 1 M9 9 9 7 7 7 7 9z":    -8,
		"M5 5 6 5 5 6z":                     1,
		"M0 0 2 0 2 2 0 2 0 0 2 0 2 2 0 2z": 16,
		"M0 0 2 0 0 2 2 2z":                 0,
		"M-1000000-1000000h2000000v2000000H-1000000z": 8e12,
	} {
		lookArea(t, drawn(t, s), want)
	}
	s := strings.Repeat("M-1000000-1000000h2000000v2000000H-1000000z", 124)
	lookArea(t, drawn(t, s+"M0 0 0 1 1 0z"), 124*8e12-1)
}

func TestP10_4Around(t *testing.T) {
	lookRound(t, nil, 0, 0, false)
	f := drawn(t, square)
	for y := -2; y <= 6; y++ {
		for x := -2; x <= 6; x++ {
			out := x < 0 || x > 4 || y < 0 || y > 4
			in := x > 0 && x < 4 && y > 0 && y < 4
			n := 0
			if in {
				n = 1
			}
			lookRound(t, f, complex(float64(x), float64(y)), n, !in && !out)
		}
	}
	for s, want := range map[string]int{
		"M0 0 0 4 4 4 4 0z":                                   -1,
		"M0 0 4 0 4 4 0 4":                                    0, // it isn't closed
		"M0 0 4 0 4 4 0 4 0 0":                                0,
		"M0 0 4 0 4 4 0 4z M-1-1 5-1 5 5-1 5z":                2,
		"M0 0 4 0 4 4 0 4z M-1-1-1 5 5 5 5-1z":                0,
		"M0 0 4 0 4 4 0 4 0 0 4 0 4 4 0 4z":                   2,
		"M0 0 0 4 4 4 4 0 0 0 0 4 4 4 4 0z M0 0 0 4 4 4 4 0z": -3,
		"M1-9 2-8 1 9-9 1z":                                   1,
		"M-1000000-1000000h2000000v2000000H-1000000z":         1,
		"M1 1 9 1 9 9 1 9z M5 5z":                             0,
		"M2 0 0 2-2 0 0-2z":                                   1, // corners at its height
		"M2 0 3 0 0 2-2 0-3 0 0-2z":                           1, // sides at its height
		"M1 0 2 2 3 0 4 2 5 0 0 9-5 0 0-9z":                   1,
		"M1 0 2-2 3 0 4-2 5 0 0 9-5 0 0-9z":                   1,
		"M-1 0-2 2-3 0-4 2-5 0 0-9 5 0 0 9z":                  1,
	} {
		if strings.HasPrefix(s, "M0 0") {
			lookRound(t, drawn(t, s), 2+2i, want, false)
		} else {
			lookRound(t, drawn(t, s), 0, want, false)
		}
	}
}

func TestP10_4On(t *testing.T) {
	for _, c := range []struct {
		s  string
		p  complex128
		on bool
	}{
		{"M3 4z", 3 + 4i, true},
		{"M3 4z", 3 + 5i, false},
		{"M3 4", 3 + 4i, false},
		{"M0 0 6 3z", 4 + 2i, true},
		{"M0 0 6 3z", 6 + 3i, true},
		{"M0 0 6 3z", 8 + 4i, false},
		{"M0 0 6 3z", -2 - 1i, false},
		{"M0 0 6 3z", 3 + 1i, false},
		{"M0 0 6 3z", 3 + 2i, false},
		{"M0 0 6 3", 4 + 2i, false},
		{"M0 0 4 0 2 0z", 3, true},
		{"M0 0 4 0 2 0z", 5, false},
		{"M0 0 0 4z", 3i, true},
		{"M0 0 0 4z", 5i, false},
		{"M0 0 0 0 0 0z", 0, true},
		{"M0 0 4 0 4 4", 2 + 2i, false}, // the side that would close it
		{"M0 0 4 0 4 4z", 2 + 2i, true},
		{"M-9-9 9-9 9 9-9 9z M0 0 4 0 4 4z", 2, true},
		{"M0 0 4 0 4 4z M-9-9 9-9 9 9-9 9z", 2, true},
		{"M-1000000-1000000 1000000 999999z", 0, false},
		{"M-1000000-1000000 1000000 1000000z", 999999 + 999999i, true},
		{"M-1000000-999999 1000000 1000000z", 999999 + 999999i, false},
	} {
		n, on, e := Around(drawn(t, c.s), c.p)
		if on != c.on || on && n != 0 || e != api.OK {
			t.Errorf("P10.4: Around(%s, %v): %d, %v, %d", c.s, c.p, n, on, e)
		}
	}
}

// spoil writes into all lists of a figure, spare room too.
func spoil(f []Stroke) {
	for _, s := range f {
		spots := s.Spots[:cap(s.Spots)]
		for i := range spots {
			spots[i] = 77
		}
	}
	all := f[:cap(f)]
	for i := range all {
		all[i] = open(78)
	}
}

func TestP10_5Memory(t *testing.T) {
	const s = "M0 0 4 0 4 4 0 4z M1 2 3 4 5 6"
	f, keep := drawn(t, s), drawn(t, s)
	Show(f)
	first, _ := Turn(f, 1, 0)
	second, _ := Turn(f, 1, 0)
	Box(f)
	Area(f)
	Around(f, 1+1i)
	if !same(f, keep) {
		t.Error("P10.5: what was handed in is another one")
	}
	spoil(first)
	if !same(f, keep) || !same(second, keep) {
		t.Error("P10.5: Turn's answer shares memory")
	}
	spoil(f)
	if !same(second, keep) || !same(drawn(t, s), keep) {
		t.Error("P10.5: an answer shares memory with what was handed in, or with Read's")
	}
	// No two strokes share memory.
	for i := range keep {
		f, other := drawn(t, s), drawn(t, s)
		turned, _ := Turn(f, 1, 0)
		for _, l := range [][]Stroke{f, turned} {
			_ = append(l[i].Spots, 77, 77, 77, 77, 77)
			for k := range l[i].Spots {
				l[i].Spots[k] = 77
			}
			if !same(l[1-i:2-i], other[1-i:2-i]) {
				t.Error("P10.5: two strokes share memory")
			}
		}
	}
}

// TestP10_5Room: what stands in the spare room of lists isn't looked at, or written.
func TestP10_5Room(t *testing.T) {
	spots := []complex128{0, 1, 1i, 0.5, 0.5}
	room := []Stroke{closed(spots[:3]...), open(0.5)}
	room[0].Spots = spots[:3]
	lookArea(t, room[:1], 1)
	if out, e := Turn(room[:1], 2, 0); e != api.OK || !same(out, []Stroke{closed(0, 2, 2i)}) {
		t.Errorf("P10.3: %v, %d", out, e)
	}
	if spots[3] != 0.5 || room[1].Spots[0] != 0.5 {
		t.Error("P10.5: spare room is written")
	}
}
