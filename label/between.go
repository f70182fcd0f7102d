package label

import (
	"slices"

	"lectern/api"
)

// Between is a label for a new kid.
func Between(up, l, r []int) ([]int, api.Errno) {
	if Check(up) != api.OK || !mayStandBeside(up, l) || !mayStandBeside(up, r) || !inOrder(l, r) {
		return nil, api.ErrArg
	}
	kid := slices.Concat(up, room(behind(up, l), behind(up, r)))
	if Check(kid) != api.OK {
		return nil, api.ErrLimit
	}
	return kid, api.OK
}

// mayStandBeside says whether l may stand beside a new kid of up: as none, or as another one.
func mayStandBeside(up, l []int) bool {
	return len(l) == 0 || Check(l) == api.OK && slices.Equal(Up(l), up)
}

// inOrder says whether l stands ahead of r, if there are both.
func inOrder(l, r []int) bool {
	return len(l) == 0 || len(r) == 0 || Compare(l, r) < 0
}

// behind is the last level of a kid of up; nothing, if there is none.
func behind(up, kid []int) []int {
	if len(kid) == 0 {
		return nil
	}
	return kid[len(up):]
}

// room is a level behind l and ahead of r, of which each may be none.
func room(l, r []int) []int {
	switch {
	case len(l) > 0 && len(r) > 0:
		return roomBetween(l, r)
	case len(l) > 0:
		return []int{oddAbove(l[0])}
	case len(r) > 0:
		return []int{oddBelow(r[0])}
	}
	return []int{1}
}

// roomBetween goes on behind the even one of two numbers that have no room between them. A level has but one odd number, at its end: so two levels differ ahead of the end of both, and an even number isn't the last one.
func roomBetween(l, r []int) []int {
	at := 0
	for l[at] == r[at] {
		at++
	}
	begin, x, y := slices.Clone(l[:at]), l[at], r[at]
	switch {
	case oddAbove(x) < y:
		return append(begin, oddAbove(x))
	case y == x+2:
		return append(begin, x+1, 1)
	case isOdd(x):
		return append(begin, y, oddBelow(r[at+1]))
	default:
		return append(begin, x, oddAbove(l[at+1]))
	}
}

// oddAbove is the least odd number above v.
func oddAbove(v int) int { return (v + 1) | 1 }

// oddBelow is the greatest odd number below v.
func oddBelow(v int) int { return (v - 2) | 1 }
