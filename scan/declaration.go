package scan

import (
	"strings"

	"lectern/api"
)

// opener is what a declaration begins with, ahead of white space.
const opener = "<?xml"

// declares says whether a declaration begins there: elsewhere the same bytes are an instruction's.
func (r *reader) declares() bool {
	return r.at == 0 && r.sees(opener) && len(r.text) > len(opener) && isBlank(r.text[len(opener)])
}

// declaration reads a declaration.
func (r *reader) declaration() (Token, api.Errno) {
	r.take(opener)
	version, ok := r.property("version", isVersion)
	if !ok {
		return Token{}, api.ErrSyntax
	}
	t := Token{Kind: Decl, Pairs: []Pair{version}}
	encoding, encoded := r.property("encoding", isEncoding)
	if encoded {
		t.Pairs = append(t.Pairs, encoding)
	}
	if standalone, ok := r.property("standalone", isStandalone); ok {
		t.Pairs = append(t.Pairs, standalone)
	}
	r.blanks()
	if !r.take("?>") {
		return Token{}, api.ErrSyntax
	}
	if encoded && !strings.EqualFold(encoding.Value, "UTF-8") {
		return Token{}, api.ErrUnsupported
	}
	return t, api.OK
}

// property reads a pair of a declaration, of that name and with a right value; where there is no such pair it reads nothing.
func (r *reader) property(name string, right func(value string) bool) (Pair, bool) {
	back := r.at
	if r.blanks() && r.take(name) && r.equals() {
		if value, ok := r.quoted(); ok && right(string(value)) {
			return Pair{name, string(value)}, true
		}
	}
	r.at = back
	return Pair{}, false
}

func isVersion(s string) bool {
	digits, ok := strings.CutPrefix(s, "1.")
	return ok && digits != "" && madeOf(digits, isDigit)
}

func isEncoding(s string) bool {
	return s != "" && isLetter(s[0]) && madeOf(s, func(c byte) bool {
		return isLetter(c) || isDigit(c) || c == '.' || c == '_' || c == '-'
	})
}

func isStandalone(s string) bool { return s == "yes" || s == "no" }

// madeOf says whether all bytes of s are such.
func madeOf(s string, such func(c byte) bool) bool {
	for i := range len(s) {
		if !such(s[i]) {
			return false
		}
	}
	return true
}

func isDigit(c byte) bool { return '0' <= c && c <= '9' }

func isLetter(c byte) bool { return 'a' <= c && c <= 'z' || 'A' <= c && c <= 'Z' }
