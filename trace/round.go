package trace

import (
	"iter"

	"lectern/api"
)

// Parts are whole here, and sums of their products stay below 2^53: so floats are exact, and may be held against 0.

// Area is twice what a figure encloses.
func Area(f []Stroke) (float64, api.Errno) {
	if !isRight(f) {
		return 0, api.ErrArg
	}
	area := 0.0
	for a, b := range sides(f) {
		area += imag(about(a) * b)
	}
	return area, api.OK
}

// Around is how often a figure goes round a spot.
func Around(f []Stroke, p complex128) (n int, on bool, e api.Errno) {
	if !isRight(f) || !isSpot(p) {
		return 0, false, api.ErrArg
	}
	for a, b := range sides(f) {
		// The imaginary part says which way one at p turns from a to b, the real part whether both lie on one side of p.
		turn := about(a-p) * (b - p)
		if imag(turn) == 0 && real(turn) <= 0 {
			return 0, true, api.OK
		}
		// What is counted are the sides that cross the line from p to the right; a spot at its height counts as below, so that a corner there isn't counted twice.
		switch below, behind := imag(a) <= imag(p), imag(b) <= imag(p); {
		case below && !behind && imag(turn) > 0:
			n++
		case !below && behind && imag(turn) < 0:
			n--
		}
	}
	return n, false, api.OK
}

// about is a spot with its imaginary part turned about.
func about(z complex128) complex128 { return complex(real(z), -imag(z)) }

// sides is each spot of the closed strokes, and the one behind it.
func sides(f []Stroke) iter.Seq2[complex128, complex128] {
	return func(yield func(a, b complex128) bool) {
		for _, s := range f {
			if !s.Closed {
				continue
			}
			a := s.Spots[len(s.Spots)-1]
			for _, b := range s.Spots {
				if !yield(a, b) {
					return
				}
				a = b
			}
		}
	}
}
