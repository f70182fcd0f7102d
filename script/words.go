package script

import (
	"strconv"
	"strings"

	"lectern/api"
)

// The answers to lines that nothing is asked by.
const (
	noLine = "error line"
	noBase = "error base"
)

// Between these are the bytes that stand in answers as they are, but for the mark of those that don't.
const (
	leastPlain = 33
	mostPlain  = 126
	mark       = '\\'
)

const digits = "0123456789abcdef"

// answer is what is told of a call: its error, or behind ok the words that it answered.
func answer(e api.Errno, words ...string) string {
	if e != api.OK {
		return e.Error()
	}
	var w strings.Builder
	w.WriteString("ok")
	for _, word := range words {
		w.WriteString(" " + spell(word))
	}
	return w.String()
}

// placed is likewise, of a call that answers the place of a fault, too.
func placed(at int, e api.Errno, words ...string) string {
	s := answer(e, words...)
	if e != api.OK {
		s += " " + strconv.Itoa(at)
	}
	return s
}

// spell is a word of any bytes as it stands in an answer.
func spell(word string) string {
	var w strings.Builder
	for _, b := range []byte(word) {
		if b < leastPlain || b > mostPlain || b == mark {
			w.Write([]byte{mark, digits[b>>4], digits[b&15]})
		} else {
			w.WriteByte(b)
		}
	}
	return w.String()
}

// unspell is the bytes that a word of a line stands for; false, if a mark in it stands for none.
func unspell(word string) (string, bool) {
	var w strings.Builder
	for i := 0; i < len(word); i++ {
		b := word[i]
		if b == mark {
			if len(word)-i <= 2 {
				return "", false
			}
			high, low := strings.IndexByte(digits, word[i+1]), strings.IndexByte(digits, word[i+2])
			if high < 0 || low < 0 {
				return "", false
			}
			b = byte(high<<4 | low)
			i += 2
		}
		w.WriteByte(b)
	}
	return w.String(), true
}
