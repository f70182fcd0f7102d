package scan

import (
	"bytes"
	"strings"

	"lectern/api"
	"lectern/char"
	"lectern/refer"
)

// token reads the token there, all but its place.
func (r *reader) token() (Token, api.Errno) {
	switch {
	case r.declares():
		return r.declaration()
	case r.take("<!--"):
		return r.comment()
	case r.take("<![CDATA["):
		return r.data()
	case r.take("<!DOCTYPE"):
		return Token{}, api.ErrUnsupported
	case r.take("<!"):
		return Token{}, api.ErrSyntax
	case r.take("<?"):
		return r.instruction()
	case r.take("</"):
		return r.closing()
	case r.take("<"):
		return r.opening()
	}
	return r.chars()
}

// comment reads a comment behind its <!--.
func (r *reader) comment() (Token, api.Errno) {
	text, ok := r.upTo("--")
	if !ok || !r.take(">") {
		return Token{}, api.ErrSyntax
	}
	return Token{Kind: Comment, Text: string(text)}, api.OK
}

// data reads data behind its <![CDATA[.
func (r *reader) data() (Token, api.Errno) {
	text, ok := r.upTo("]]>")
	if !ok {
		return Token{}, api.ErrSyntax
	}
	return Token{Kind: Data, Text: string(text)}, api.OK
}

// instruction reads an instruction behind its <?.
func (r *reader) instruction() (Token, api.Errno) {
	name, e := r.written()
	switch {
	case e != api.OK:
		return Token{}, e
	case !char.Name(name):
		return Token{}, api.ErrName
	case strings.EqualFold(name, "xml"):
		return Token{}, api.ErrReserved
	}
	if !r.blanks() && !r.sees("?>") {
		return Token{}, api.ErrSyntax
	}
	text, ok := r.upTo("?>")
	if !ok {
		return Token{}, api.ErrSyntax
	}
	return Token{Kind: Instr, Name: name, Text: string(text)}, api.OK
}

// closing reads a closing behind its </.
func (r *reader) closing() (Token, api.Errno) {
	name, e := r.qualified()
	if e != api.OK {
		return Token{}, e
	}
	r.blanks()
	if !r.take(">") {
		return Token{}, api.ErrSyntax
	}
	return Token{Kind: Close, Name: name}, api.OK
}

// opening reads an opening, or a lone tag, behind its <.
func (r *reader) opening() (Token, api.Errno) {
	name, e := r.qualified()
	if e != api.OK {
		return Token{}, e
	}
	t := Token{Kind: Open, Name: name}
	there := map[string]struct{}{}
pair:
	gap := r.blanks()
	if r.take(">") {
		return t, api.OK
	}
	if r.take("/>") {
		t.Kind = Lone
		return t, api.OK
	}
	if !gap {
		return Token{}, api.ErrSyntax
	}
	p, e := r.pair()
	if e != api.OK {
		return Token{}, e
	}
	if _, twice := there[p.Name]; twice {
		return Token{}, api.ErrTwice
	}
	there[p.Name] = struct{}{}
	t.Pairs = append(t.Pairs, p)
	goto pair
}

// chars reads a text.
func (r *reader) chars() (Token, api.Errno) {
	raw, _, _ := bytes.Cut(r.text[r.at:], []byte("<"))
	text, _, e := refer.ReadText(raw)
	if e != api.OK {
		return Token{}, e
	}
	r.at += len(raw)
	// In a text that is right each & begins a reference, and none stands within one.
	return Token{Kind: Text, Text: text, Refs: bytes.Count(raw, []byte("&"))}, api.OK
}
