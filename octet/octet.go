// Package octet makes bytes of numbers, the highest byte first, and numbers of bytes: for the layers that lay these on sectors and into pages.
package octet

// Bytes is a number as so many bytes; of a greater one they are its low bytes.
func Bytes(v uint64, size int) []byte {
	b := make([]byte, max(size, 0))
	for i := range len(b) {
		b[len(b)-1-i] = byte(v >> (8 * i))
	}
	return b
}

// Number is the number that fills bytes; of more than 8 bytes the last 8 say it.
func Number(b []byte) uint64 {
	v := uint64(0)
	for i := range len(b) {
		v = v<<8 | uint64(b[i])
	}
	return v
}
