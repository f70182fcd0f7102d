package label

import "math/bits"

// maxDigits is how many binary digits the n may have whose row a label's number has.
const maxDigits = 31

// A number's bits are, where its row is that of n, with k digits: k times a 1, a 0, and the last k - 1 digits of n; below 0 all of these are turned about, the first one too.

// rowOf is the n whose row a number has, and 1, if its bits are turned about, else 0.
func rowOf(v int) (n, turned int) {
	if v < 0 {
		return -v, 1
	}
	return v + 1, 0
}

// digits is how many binary digits n has.
func digits(n int) int { return bits.Len(uint(n)) }

// size is how many bytes a label has.
func size(l []int) int {
	all := 0
	for _, v := range l {
		n, _ := rowOf(v)
		all += 2 * digits(n)
	}
	return (all + 7) / 8
}

// writer writes bits, one behind the other.
type writer struct {
	bytes []byte
	at    int // how many bits are written
}

func (w *writer) put(bit int) {
	if w.at%8 == 0 {
		w.bytes = append(w.bytes, 0)
	}
	w.bytes[w.at/8] |= byte(bit) << (7 - w.at%8)
	w.at++
}

func (w *writer) number(v int) {
	n, turned := rowOf(v)
	k := digits(n)
	for range k {
		w.put(1 ^ turned)
	}
	w.put(turned)
	for i := range k - 1 {
		digit := n >> (k - 2 - i) & 1
		w.put(digit ^ turned)
	}
}

// numbers is the numbers whose bits stand in bytes, up to bits that are none's.
func numbers(b []byte) []int {
	var l []int
	for at := 0; at < 8*len(b); {
		v, size := number(b, at)
		if size == 0 {
			break
		}
		l = append(l, v)
		at += size
	}
	return l
}

// number is the number whose bits begin at a place, and how many these are: none, if they are no number's.
func number(b []byte, at int) (v, size int) {
	turned := bitOf(b, at) ^ 1
	k := alike(b, at)
	if k > maxDigits || at+2*k > 8*len(b) {
		return 0, 0
	}
	n := 1
	for i := range k - 1 {
		digit := bitOf(b, at+k+1+i) ^ turned
		n = n<<1 | digit
	}
	if turned == 1 {
		return -n, 2 * k
	}
	return n - 1, 2 * k
}

// alike is how many bits from a place on are the same.
func alike(b []byte, at int) int {
	left := 8*len(b) - at
	for i := range left {
		if bitOf(b, at+i) != bitOf(b, at) {
			return i
		}
	}
	return left
}

func bitOf(b []byte, at int) int { return int(b[at/8]>>(7-at%8)) & 1 }
