package trace

import (
	"strconv"
	"strings"

	"lectern/api"
)

const (
	begins = "Mm"
	goesOn = "LlHhVvZz"
	// maxDigits is how many digits a number may have.
	maxDigits = 7
)

// pen draws a figure as its text is read.
type pen struct {
	text   string
	at     int // the place of what is read next; beside an error, of the fault
	last   int // the place of the number that was read last
	stands complex128
	count  int // of spots
	figure []Stroke
}

// ended says whether nothing more stands there.
func (p *pen) ended() bool { return p.at == len(p.text) }

// sees says whether one of some bytes stands there.
func (p *pen) sees(bytes string) bool {
	return !p.ended() && strings.IndexByte(bytes, p.text[p.at]) >= 0
}

// seesNumber says whether what stands there is a number, or nothing that is right.
func (p *pen) seesNumber() bool { return p.sees("+-0123456789") }

// gap reads what may stand between letters and numbers.
func (p *pen) gap() {
	for p.sees("\t\n\r ,") {
		p.at++
	}
}

// letter reads a letter that may stand there.
func (p *pen) letter() (byte, bool) {
	if !p.sees(begins) && !(p.draws() && p.sees(goesOn)) {
		return 0, false
	}
	p.at++
	return p.text[p.at-1], true
}

// draws says whether there is a stroke that goes on.
func (p *pen) draws() bool {
	return len(p.figure) > 0 && !p.figure[len(p.figure)-1].Closed
}

// begin begins a stroke, whose first spot is drawn next.
func (p *pen) begin() { p.figure = append(p.figure, Stroke{}) }

// close closes the last stroke.
func (p *pen) close() {
	s := &p.figure[len(p.figure)-1]
	s.Closed = true
	p.stands = s.Spots[0]
}

// draw reads the numbers of a letter's next spot, and goes there.
func (p *pen) draw(letter byte) api.Errno {
	z, ok := p.aim(letter)
	if !ok {
		return api.ErrFigure
	}
	if p.count++; p.count > api.MaxSpots || isNoSpot(z) {
		p.at = p.last
		return api.ErrLimit
	}
	s := &p.figure[len(p.figure)-1]
	s.Spots = append(s.Spots, z)
	p.stands = z
	return api.OK
}

// aim reads the numbers of a letter's next spot, and answers that.
func (p *pen) aim(letter byte) (complex128, bool) {
	var z, from complex128
	switch letter {
	case 'H', 'V':
		z = p.stands
	case 'm', 'l', 'h', 'v':
		from = p.stands
	}
	if letter != 'V' && letter != 'v' {
		x, ok := p.number()
		if !ok {
			return 0, false
		}
		z = complex(x, imag(z))
	}
	if letter != 'H' && letter != 'h' {
		y, ok := p.number()
		if !ok {
			return 0, false
		}
		z = complex(real(z), y)
	}
	return from + z, true
}

// number reads a number; where there is none it reads nothing but the gap ahead.
func (p *pen) number() (float64, bool) {
	p.gap()
	first := p.at
	if p.sees("+-") {
		p.at++
	}
	digits := p.at
	// One digit more than there may be is enough to know.
	for p.at-digits <= maxDigits && p.sees("0123456789") {
		p.at++
	}
	n, e := strconv.Atoi(p.text[first:p.at])
	if e != nil || p.at-digits > maxDigits {
		p.at = first
		return 0, false
	}
	p.last = first
	return float64(n), true
}
