package trace

import (
	"math"
	"regexp"
	"strconv"
	"strings"
	"testing"

	"lectern/api"
	"lectern/sample"
)

var (
	isWord   = regexp.MustCompile(`[+-]?[0-9]+|[^,\t\n\r ]`)
	isNumber = regexp.MustCompile(`^[+-]?[0-9]{1,7}$`)
)

// The model knows a figure by the words of its text: it asks of each word what came ahead of it.
type model struct {
	figure   []Stroke
	letter   string // the last one, in capitals
	relative bool
	numbers  []int // behind it, of the spot that isn't whole yet
	any      bool  // whether a spot stands behind it
	x, y     int
}

// word says whether a word may stand behind those that came, and whether it is beyond the limits.
func (m *model) word(w string) (ok, beyond bool) {
	if n, e := strconv.Atoi(w); e == nil {
		if m.letter == "" || m.letter == "Z" || !isNumber.MatchString(w) {
			return false, false
		}
		m.numbers = append(m.numbers, n)
		return true, m.spot()
	}
	if !strings.Contains("MLHVZmlhvz", w) || len(m.numbers) > 0 || !m.any && m.letter != "" && m.letter != "Z" {
		return false, false
	}
	up := strings.ToUpper(w)
	if (m.letter == "" || m.letter == "Z") && up != "M" {
		return false, false
	}
	m.letter, m.relative, m.any = up, up != w, false
	last := len(m.figure) - 1
	switch up {
	case "M":
		m.figure = append(m.figure, Stroke{})
	case "Z":
		m.figure[last].Closed = true
		m.x, m.y = int(real(m.figure[last].Spots[0])), int(imag(m.figure[last].Spots[0]))
	}
	return true, false
}

// spot goes to the next spot, if it is whole, and says whether that is beyond the limits.
func (m *model) spot() bool {
	x, y := m.x, m.y
	switch {
	case m.letter == "H" && m.relative:
		x += m.numbers[0]
	case m.letter == "H":
		x = m.numbers[0]
	case m.letter == "V" && m.relative:
		y += m.numbers[0]
	case m.letter == "V":
		y = m.numbers[0]
	case len(m.numbers) < 2:
		return false
	case m.relative:
		x, y = x+m.numbers[0], y+m.numbers[1]
	default:
		x, y = m.numbers[0], m.numbers[1]
	}
	m.x, m.y, m.numbers, m.any = x, y, nil, true
	s := &m.figure[len(m.figure)-1]
	s.Spots = append(s.Spots, complex(float64(x), float64(y)))
	count := 0
	for _, s := range m.figure {
		count += len(s.Spots)
	}
	return max(x, y) > 1000000 || min(x, y) < -1000000 || count > 500
}

func modelRead(s string) ([]Stroke, int, api.Errno) {
	var m model
	for _, place := range isWord.FindAllStringIndex(s, -1) {
		w := s[place[0]:place[1]]
		if ok, beyond := m.word(w); !ok {
			return nil, place[0], api.ErrFigure
		} else if beyond {
			return nil, place[0], api.ErrLimit
		}
	}
	if len(m.numbers) > 0 || m.letter != "" && m.letter != "Z" && !m.any {
		return nil, len(s), api.ErrFigure
	}
	return m.figure, 0, api.OK
}

// drawText is mostly, or nearly, a figure's text.
func drawText(d *sample.Dice) string {
	number := func() string {
		return d.Of("", " ", ",", " ,\n") + d.Of("0", "1", "-1", "+2", "-3", "7", "44", "-0", "007", "1000000", "-999999", "600000") + d.Of("", " ", "\t", "\r,")
	}
	var w strings.Builder
	for i := range d.Under(7) {
		letter := d.Of("M", "m", "L", "l", "H", "h", "V", "v", "z", "Z")
		if i == 0 && !d.OneIn(10) {
			letter = d.Of("M", "m")
		}
		w.WriteString(letter)
		numbers := 2 * (1 + d.Under(2))
		switch letter {
		case "H", "h", "V", "v":
			numbers = 1 + d.Under(3)
		case "Z", "z":
			numbers = 0
		}
		if d.OneIn(12) {
			numbers += d.Under(3) - 1
		}
		for range numbers {
			w.WriteString(number())
		}
		if letter == "z" && !d.OneIn(4) {
			w.WriteString("M" + number() + " " + number())
		}
		if d.OneIn(20) {
			w.WriteString(d.Of("x", ".", "-", "+", "é", "\xff", "12345678", "\x00", "e5", " - 1", "1000001", "-9999999"))
		}
	}
	return w.String()
}

func TestModelOfReading(t *testing.T) {
	dice := sample.Dice(1)
	count := map[api.Errno]int{}
	for range 100000 {
		s := drawText(&dice)
		f, at, e := Read(s)
		count[e]++
		if want, place, err := modelRead(s); !same(f, want) || at != place || e != err {
			t.Fatalf("P10.1: Read(%q): %v, %d, %d, not %v, %d, %d", s, f, at, e, want, place, err)
		}
		if e != api.OK {
			continue
		}
		text, e := Show(f)
		if back, at, err := Read(text); e != api.OK || !same(back, f) || at != 0 || err != api.OK {
			t.Fatalf("P10.5: %v is shown as %q, %d", f, text, e)
		}
		if again, _ := Show(f); again != text || strings.Trim(text, "MLZ-0123456789 ") != "" || strings.Contains(text, "  ") {
			t.Fatalf("P10.2: %q", text)
		}
	}
	if count[api.OK] < 20000 || count[api.ErrFigure] < 10000 || count[api.ErrLimit] < 3000 {
		t.Errorf("drawn: %v", count)
	}
}

// drawFigure is a right figure about 0.
func drawFigure(d *sample.Dice, size int) []Stroke {
	var f []Stroke
	for range d.Under(6) {
		s := Stroke{Closed: !d.OneIn(4)}
		for range 1 + d.Under(10) {
			s.Spots = append(s.Spots, drawSpot(d, size))
		}
		f = append(f, s)
	}
	return f
}

func drawSpot(d *sample.Dice, size int) complex128 {
	return complex(float64(d.Under(2*size+1)-size), float64(d.Under(2*size+1)-size))
}

func whole(z complex128) (int, int) { return int(real(z)), int(imag(z)) }

// modelOn goes from whole spot to whole spot along the side.
func modelOn(a, b, p complex128) bool {
	ax, ay := whole(a)
	bx, by := whole(b)
	px, py := whole(p)
	n := gcd(max(ax-bx, bx-ax), max(ay-by, by-ay))
	for i := range n + 1 {
		if n == 0 {
			return a == p
		}
		if px == ax+(bx-ax)/n*i && py == ay+(by-ay)/n*i {
			return true
		}
	}
	return false
}

func gcd(a, b int) int {
	if b == 0 {
		return a
	}
	return gcd(b, a%b)
}

// modelAround adds up how far one that stands at p turns while looking along the strokes.
func modelAround(f []Stroke, p complex128) (int, bool) {
	sum := 0.0
	for _, s := range f {
		for i, a := range s.Spots {
			b := s.Spots[(i+1)%len(s.Spots)]
			if !s.Closed {
				continue
			}
			if modelOn(a, b, p) {
				return 0, true
			}
			turn := math.Atan2(imag(b-p), real(b-p)) - math.Atan2(imag(a-p), real(a-p))
			sum += math.Remainder(turn, 2*math.Pi)
		}
	}
	return int(math.Round(sum / (2 * math.Pi))), false
}

// modelArea adds up what lies below the sides.
func modelArea(f []Stroke) float64 {
	sum := 0
	for _, s := range f {
		for i, a := range s.Spots {
			ax, ay := whole(a)
			bx, by := whole(s.Spots[(i+1)%len(s.Spots)])
			if s.Closed {
				sum += (ax - bx) * (ay + by)
			}
		}
	}
	return float64(sum)
}

func TestModelOfFigures(t *testing.T) {
	dice := sample.Dice(2)
	count := map[int]int{}
	for range 30000 {
		size := 1 + dice.Under(6)
		f, p, w, d := drawFigure(&dice, size), drawSpot(&dice, size/2), drawSpot(&dice, 3), drawSpot(&dice, 5)
		n, on, e := Around(f, p)
		if want, wantOn := modelAround(f, p); n != want || on != wantOn || e != api.OK {
			t.Fatalf("P10.4: Around(%v, %v): %d, %v, %d, not %d, %v", f, p, n, on, e, want, wantOn)
		}
		if count[n]++; on {
			count[99]++
		}
		area, e := Area(f)
		if area != modelArea(f) || e != api.OK {
			t.Fatalf("P10.4: Area(%v): %v, %d", f, area, e)
		}
		turned, e := Turn(f, w, d)
		if e != api.OK || len(turned) != len(f) {
			t.Fatalf("P10.3: Turn(%v, %v, %v): %v, %d", f, w, d, turned, e)
		}
		if now, _ := Area(turned); now != area*real(w*about(w)) {
			t.Fatalf("P10.5: Area(%v): %v, and of it turned by %v %v", f, area, w, now)
		}
		if m, there, e := Around(turned, p*w+d); w != 0 && (m != n || there != on || e != api.OK) {
			t.Fatalf("P10.5: Around(%v, %v): %d, %v, and turned by %v and %v %d, %v", f, p, n, on, w, d, m, there)
		}
	}
	for _, n := range []int{-2, -1, 0, 1, 2, 99} {
		if count[n] < 100 {
			t.Errorf("drawn: %v", count)
		}
	}
}

// TestModelOfTurning: parts up to the limits, and beyond them.
func TestModelOfTurning(t *testing.T) {
	dice := sample.Dice(3)
	beyond := 0
	for range 30000 {
		f := drawFigure(&dice, 1000)
		w, d := drawSpot(&dice, 800), drawSpot(&dice, 1000000)
		var want []Stroke
		err := api.OK
		for _, s := range f {
			var spots []complex128
			for _, z := range s.Spots {
				zx, zy := whole(z)
				wx, wy := whole(w)
				dx, dy := whole(d)
				x, y := zx*wx-zy*wy+dx, zx*wy+zy*wx+dy
				if max(x, y) > 1000000 || min(x, y) < -1000000 {
					err = api.ErrLimit
				}
				spots = append(spots, complex(float64(x), float64(y)))
			}
			want = append(want, Stroke{spots, s.Closed})
		}
		if err != api.OK {
			want = nil
			beyond++
		}
		if out, e := Turn(f, w, d); !same(out, want) || e != err {
			t.Fatalf("P10.3: Turn(%v, %v, %v): %v, %d, not %v, %d", f, w, d, out, e, want, err)
		}
	}
	if beyond < 5000 || beyond > 25000 {
		t.Errorf("%d are beyond the limits", beyond)
	}
}

func TestModelOfBoxes(t *testing.T) {
	dice := sample.Dice(4)
	for range 10000 {
		f := drawFigure(&dice, 50)
		if len(f) == 0 {
			continue
		}
		lo, hi, e := Box(f)
		var left, right, low, high bool
		for _, s := range f {
			for _, z := range s.Spots {
				if real(z) < real(lo) || real(z) > real(hi) || imag(z) < imag(lo) || imag(z) > imag(hi) {
					t.Fatalf("P10.3: Box(%v): %v, %v", f, lo, hi)
				}
				left, right = left || real(z) == real(lo), right || real(z) == real(hi)
				low, high = low || imag(z) == imag(lo), high || imag(z) == imag(hi)
			}
		}
		if e != api.OK || !left || !right || !low || !high {
			t.Fatalf("P10.3: Box(%v): %v, %v, %d", f, lo, hi, e)
		}
	}
}

// TestP1 tells anything.
func TestP1(t *testing.T) {
	dice := sample.Dice(5)
	for range 50000 {
		var b []byte
		for range dice.Under(12) {
			b = append(b, byte(dice.Under(256)))
		}
		if dice.OneIn(2) {
			b = append([]byte("M1 2"), b...)
		}
		f, at, e := Read(string(b))
		if e == api.OK && at != 0 || e != api.OK && (len(f) > 0 || at < 0 || at > len(b) || e != api.ErrFigure && e != api.ErrLimit) {
			t.Fatalf("P10.1: Read(%q): %v, %d, %d", b, f, at, e)
		}
		if want, place, err := modelRead(string(b)); !same(f, want) || at != place || e != err {
			t.Fatalf("P10.1: Read(%q): %v, %d, %d, not %v, %d, %d", b, f, at, e, want, place, err)
		}
	}
	odd := []float64{0, 1, -1, 0.5, 1e6, -1e6, 1e6 + 1, 1e300, -1e300, math.NaN(), math.Inf(1), math.Inf(-1), math.Copysign(0, -1), math.MaxFloat64, math.SmallestNonzeroFloat64}
	draw := func() complex128 {
		return complex(odd[dice.Under(len(odd))], odd[dice.Under(len(odd))])
	}
	for range 50000 {
		var f []Stroke
		for range dice.Under(3) {
			s := Stroke{Closed: dice.OneIn(2)}
			for range dice.Under(3) {
				s.Spots = append(s.Spots, draw())
			}
			f = append(f, s)
		}
		_, e := Show(f)
		_, _, g := Box(f)
		_, h := Area(f)
		if e != h || g != h && !(g == api.ErrNone && len(f) == 0) {
			t.Fatalf("%v: Show %d, Box %d, Area %d", f, e, g, h)
		}
		w, d := draw(), draw()
		_, g = Turn(f, w, d)
		if _, _, h := Around(f, w); e != api.OK && (g != api.ErrArg || h != api.ErrArg) {
			t.Fatalf("%v: Turn %d, Around %d", f, g, h)
		}
	}
}
