package scan

import (
	"bytes"

	"lectern/api"
	"lectern/char"
	"lectern/refer"
)

// reader goes through a text without faults from the left. What its methods read they leave behind; beside an error, or false, the place where they leave it means nothing, unless they say so.
type reader struct {
	text []byte
	at   int
}

// ended says whether nothing more stands there.
func (r *reader) ended() bool { return r.at == len(r.text) }

// sees says whether s stands there.
func (r *reader) sees(s string) bool { return bytes.HasPrefix(r.text[r.at:], []byte(s)) }

// take reads s; where s doesn't stand it reads nothing.
func (r *reader) take(s string) bool {
	if !r.sees(s) {
		return false
	}
	r.at += len(s)
	return true
}

// upTo reads what stands ahead of the next end, and that.
func (r *reader) upTo(end string) ([]byte, bool) {
	read, _, ok := bytes.Cut(r.text[r.at:], []byte(end))
	if ok {
		r.at += len(read) + len(end)
	}
	return read, ok
}

// blanks reads all white space there, and says whether there is any.
func (r *reader) blanks() bool {
	first := r.at
	for !r.ended() && isBlank(r.text[r.at]) {
		r.at++
	}
	return r.at > first
}

func isBlank(c byte) bool { return c == ' ' || c == '\t' || c == '\n' || c == '\r' }

// equals reads an equals sign and the white space about it.
func (r *reader) equals() bool {
	r.blanks()
	if !r.take("=") {
		return false
	}
	r.blanks()
	return true
}

// quoted reads what stands between two quotes of a kind.
func (r *reader) quoted() ([]byte, bool) {
	switch {
	case r.take("'"):
		return r.upTo("'")
	case r.take(`"`):
		return r.upTo(`"`)
	}
	return nil, false
}

// written reads a written name. ErrSyntax: there is none, or one that begins as no name does.
func (r *reader) written() (string, api.Errno) {
	begin := r.at
	// The end of the text is told by an error, too.
	c, behind, e := char.Next(r.text, r.at)
	if e != api.OK || c != ':' && !char.IsStart(c) {
		return "", api.ErrSyntax
	}
	for e == api.OK && (c == ':' || char.IsPart(c)) {
		r.at = behind
		c, behind, e = char.Next(r.text, r.at)
	}
	return string(r.text[begin:r.at]), api.OK
}

// qualified reads a written name that is a qualified one.
func (r *reader) qualified() (string, api.Errno) {
	name, e := r.written()
	if e != api.OK {
		return "", e
	}
	if _, _, ok := char.Split(name); !ok {
		return "", api.ErrName
	}
	return name, api.OK
}

// pair reads a pair of a tag.
func (r *reader) pair() (Pair, api.Errno) {
	name, e := r.qualified()
	if e != api.OK {
		return Pair{}, e
	}
	if !r.equals() {
		return Pair{}, api.ErrSyntax
	}
	raw, ok := r.quoted()
	if !ok {
		return Pair{}, api.ErrSyntax
	}
	value, _, e := refer.ReadValue(raw)
	if e != api.OK {
		return Pair{}, e
	}
	return Pair{name, value}, api.OK
}
