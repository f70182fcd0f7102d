package trace

import (
	"math"
	"slices"

	"lectern/api"
)

// isRight says whether a figure is right.
func isRight(f []Stroke) bool {
	count := 0
	for _, s := range f {
		count += len(s.Spots)
		if len(s.Spots) == 0 || count > api.MaxSpots || slices.ContainsFunc(s.Spots, isNoSpot) {
			return false
		}
	}
	return true
}

func isSpot(z complex128) bool { return isPart(real(z)) && isPart(imag(z)) }

func isNoSpot(z complex128) bool { return !isSpot(z) }

// isPart says whether a number may be a spot's part. What is no number at all isn't the same as itself.
func isPart(part float64) bool {
	return part == math.Trunc(part) && math.Abs(part) <= api.MaxSpot
}
