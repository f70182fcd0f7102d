// Package refer is layer 2: see shared/doc/02-refer.md.
package refer

import (
	"bytes"
	"strings"
	"unicode/utf8"

	"lectern/api"
	"lectern/char"
)

// noDigit is a digit's value that no base has.
const noDigit = 16

// named is the references that have names.
var named = [...]struct {
	written string
	stands  rune
}{
	{"&lt;", '<'},
	{"&gt;", '>'},
	{"&amp;", '&'},
	{"&apos;", '\''},
	{"&quot;", '"'},
}

// Expand is what the reference at a place stands for, and the place behind it.
func Expand(b []byte, at int) (rune, int, api.Errno) {
	if at < 0 || at >= len(b) || b[at] != '&' {
		return 0, 0, api.ErrArg
	}
	if at+1 < len(b) && b[at+1] == '#' {
		return numbered(b, at+2)
	}
	for _, n := range named {
		if bytes.HasPrefix(b[at:], []byte(n.written)) {
			return n.stands, at + len(n.written), api.OK
		}
	}
	return 0, 0, api.ErrRef
}

// numbered is Expand's answer for a reference whose &# ends at the place at.
func numbered(b []byte, at int) (rune, int, api.Errno) {
	base := 10
	if at < len(b) && b[at] == 'x' {
		base, at = 16, at+1
	}
	n, first := 0, at
	for at < len(b) && digit(b[at]) < base {
		// Any number of digits may come: what is above all chars stays there.
		n = min(n*base+digit(b[at]), utf8.MaxRune+1)
		at++
	}
	if at == first || at == len(b) || b[at] != ';' {
		return 0, 0, api.ErrRef
	}
	if !char.IsChar(rune(n)) {
		return 0, 0, api.ErrChar
	}
	return rune(n), at + 1, api.OK
}

// digit is a hexadecimal digit's value, or noDigit.
func digit(c byte) int {
	switch {
	case '0' <= c && c <= '9':
		return int(c - '0')
	case 'a' <= c && c <= 'f':
		return int(c-'a') + 10
	case 'A' <= c && c <= 'F':
		return int(c-'A') + 10
	}
	return noDigit
}

// Text writes a text.
func Text(s string) string { return write(s, inText) }

// Quote writes an attribute's value.
func Quote(s string) string { return write(s, inValue) }

// write is s with each byte that ref has a reference for written as that one.
func write(s string, ref func(c byte) string) string {
	var w strings.Builder
	for i := range len(s) {
		if t := ref(s[i]); t != "" {
			w.WriteString(t)
		} else {
			w.WriteByte(s[i])
		}
	}
	return w.String()
}

// inText is how a byte of a text is written that can't stand for itself.
func inText(c byte) string {
	switch c {
	case '&':
		return "&amp;"
	case '<':
		return "&lt;"
	case '>':
		return "&gt;"
	case '\r':
		return "&#13;"
	}
	return ""
}

// inValue is how a byte of an attribute's value is written that can't stand for itself.
func inValue(c byte) string {
	switch c {
	case '&':
		return "&amp;"
	case '<':
		return "&lt;"
	case '"':
		return "&quot;"
	case '\t':
		return "&#9;"
	case '\n':
		return "&#10;"
	case '\r':
		return "&#13;"
	}
	return ""
}

// ReadText reads a text.
func ReadText(b []byte) (string, int, api.Errno) { return read(b, nextOfText) }

// ReadValue reads an attribute's value.
func ReadValue(b []byte) (string, int, api.Errno) { return read(b, nextOfValue) }

// read is what next says from place to place, or the place and the error of its first fault.
func read(b []byte, next func(b []byte, at int) (rune, int, api.Errno)) (string, int, api.Errno) {
	var w strings.Builder
	for at := 0; at < len(b); {
		r, behind, e := next(b, at)
		if e != api.OK {
			return "", at, e
		}
		w.WriteRune(r)
		at = behind
	}
	return w.String(), 0, api.OK
}

// nextOfText is the char that a text says at a place, and the place behind.
func nextOfText(b []byte, at int) (rune, int, api.Errno) {
	if bytes.HasPrefix(b[at:], []byte("]]>")) {
		return 0, 0, api.ErrSyntax
	}
	return nextOfBoth(b, at)
}

// nextOfValue is the char that an attribute's value says at a place, and the place behind.
func nextOfValue(b []byte, at int) (rune, int, api.Errno) {
	if c := b[at]; c == '\t' || c == '\n' || c == '\r' {
		return ' ', at + 1, api.OK
	}
	return nextOfBoth(b, at)
}

// nextOfBoth is what texts and values have in common.
func nextOfBoth(b []byte, at int) (rune, int, api.Errno) {
	switch b[at] {
	case '<':
		return 0, 0, api.ErrSyntax
	case '&':
		return Expand(b, at)
	}
	return char.Next(b, at)
}
