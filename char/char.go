// Package char is layer 1: see shared/doc/01-char.md.
package char

import (
	"strings"
	"unicode/utf8"

	"lectern/api"
)

// IsChar says whether r is a char.
func IsChar(r rune) bool {
	return r == '\t' || r == '\n' || r == '\r' ||
		between(r, 0x20, 0xd7ff) ||
		between(r, 0xe000, 0xfffd) ||
		between(r, 0x10000, 0x10ffff)
}

// IsStart says whether a name may begin with r.
func IsStart(r rune) bool {
	return between(r, 'A', 'Z') || r == '_' || between(r, 'a', 'z') ||
		between(r, 0xc0, 0xd6) ||
		between(r, 0xd8, 0xf6) ||
		between(r, 0xf8, 0x2ff) ||
		between(r, 0x370, 0x37d) ||
		between(r, 0x37f, 0x1fff) ||
		between(r, 0x200c, 0x200d) ||
		between(r, 0x2070, 0x218f) ||
		between(r, 0x2c00, 0x2fef) ||
		between(r, 0x3001, 0xd7ff) ||
		between(r, 0xf900, 0xfdcf) ||
		between(r, 0xfdf0, 0xfffd) ||
		between(r, 0x10000, 0xeffff)
}

// IsPart says whether r may stand in a name.
func IsPart(r rune) bool {
	return IsStart(r) || r == '-' || r == '.' || between(r, '0', '9') ||
		r == 0xb7 ||
		between(r, 0x300, 0x36f) ||
		between(r, 0x203f, 0x2040)
}

func between(r, lo, hi rune) bool { return lo <= r && r <= hi }

// Next is the char at a place, and the place behind it.
func Next(b []byte, at int) (rune, int, api.Errno) {
	if at < 0 || at >= len(b) {
		return 0, 0, api.ErrArg
	}
	r, size := utf8.DecodeRune(b[at:])
	// Bytes that are no UTF-8 are told as fffd too, but of one byte: a written fffd has three.
	if r == utf8.RuneError && size == 1 {
		return 0, 0, api.ErrUTF8
	}
	if !IsChar(r) {
		return 0, 0, api.ErrChar
	}
	return r, at + size, api.OK
}

// Fault is the first place that isn't right.
func Fault(b []byte) (int, api.Errno) {
	for at := 0; at < len(b); {
		_, behind, e := Next(b, at)
		if e != api.OK {
			return at, e
		}
		at = behind
	}
	return 0, api.OK
}

// Name says whether s is a name.
func Name(s string) bool {
	// A range over s would take bytes that are no UTF-8 for fffd, which is a start.
	if s == "" || len(s) > api.MaxName || !utf8.ValidString(s) {
		return false
	}
	for i, r := range s {
		if i == 0 && !IsStart(r) || !IsPart(r) {
			return false
		}
	}
	return true
}

// Split parts a qualified name at its colon.
func Split(q string) (prefix, local string, ok bool) {
	prefix, local, colon := strings.Cut(q, ":")
	if !colon {
		prefix, local = "", q
	}
	if colon && !Name(prefix) || !Name(local) {
		return "", "", false
	}
	// Pieces of q would share its memory.
	return strings.Clone(prefix), strings.Clone(local), true
}

// Lines makes all line ends one 10.
func Lines(b []byte) []byte {
	out := make([]byte, 0, len(b))
	for i, c := range b {
		switch {
		case c != '\r':
			out = append(out, c)
		case i+1 == len(b) || b[i+1] != '\n': // else the 10 behind it is the line's end
			out = append(out, '\n')
		}
	}
	return out
}
