package pick

import (
	"strconv"

	"lectern/api"
	"lectern/char"
)

// reader reads a query. It gives up by a panic where no query goes on: so what reads a part of one needn't ask whether the parts in it were right.
type reader struct {
	text []byte
	at   int
}

// fault is the place at which a reader gave up.
type fault int

// read is a query's steps.
func read(q string) (l []step, at int, e api.Errno) {
	defer func() {
		switch gone := recover().(type) {
		case nil:
		case fault:
			l, at, e = nil, int(gone), api.ErrQuery
		default:
			panic(gone) // it is no fault of the query
		}
	}()
	r := reader{text: []byte(q)}
	l = append(l, r.step())
	for !r.ended() {
		l = append(l, r.step())
	}
	if len(l) > maxSteps {
		return nil, 0, api.ErrLimit
	}
	return l, 0, api.OK
}

func (r *reader) giveUp() { panic(fault(r.at)) }

func (r *reader) ended() bool { return r.at == len(r.text) }

// sees says whether a byte from first to last stands there.
func (r *reader) sees(first, last byte) bool {
	return !r.ended() && first <= r.text[r.at] && r.text[r.at] <= last
}

// take reads c; where c doesn't stand it reads nothing.
func (r *reader) take(c byte) bool {
	there := r.sees(c, c)
	if there {
		r.at++
	}
	return there
}

// need reads c.
func (r *reader) need(c byte) {
	if !r.take(c) {
		r.giveUp()
	}
}

// upTo reads what stands ahead of the next end, and that.
func (r *reader) upTo(end byte) string {
	first := r.at
	for !r.ended() && !r.sees(end, end) {
		r.at++
	}
	read := string(r.text[first:r.at])
	r.need(end)
	return read
}

func (r *reader) step() step {
	r.need('/')
	if r.take('@') {
		s := step{attr: true, test: r.attribute()}
		if !r.ended() {
			r.giveUp()
		}
		return s
	}
	s := step{deep: r.take('/')}
	s.test = r.test()
	for r.take('[') {
		s.conditions = append(s.conditions, r.condition())
	}
	return s
}

// attribute reads what an attribute step asks for.
func (r *reader) attribute() test {
	if r.take('*') {
		return test{}
	}
	return test{named: true, name: r.name(r.local())}
}

func (r *reader) test() test {
	if r.take('*') {
		return test{kind: api.Element}
	}
	word := r.local()
	if kind, ok := kindOf(word); ok && r.take('(') {
		r.need(')')
		return test{kind: kind}
	}
	return test{kind: api.Element, named: true, name: r.name(word)}
}

// kindOf is the kind that a word means ahead of a bracket; 0: any.
func kindOf(word string) (int, bool) {
	switch word {
	case "text":
		return api.Text, true
	case "comment":
		return api.Comment, true
	case "node":
		return 0, true
	}
	return 0, false
}

// local reads a name but for its space.
func (r *reader) local() string {
	first := r.at
	// The end of the text is told by an error, too.
	c, behind, e := char.Next(r.text, r.at)
	if e != api.OK || !char.IsStart(c) {
		r.giveUp()
	}
	for e == api.OK && char.IsPart(c) {
		r.at = behind
		c, behind, e = char.Next(r.text, r.at)
	}
	return string(r.text[first:r.at])
}

// name reads the space behind a local name, if one stands there.
func (r *reader) name(local string) api.Name {
	if !r.take('{') {
		return api.Name{Local: local}
	}
	if r.sees('}', '}') {
		r.giveUp()
	}
	return api.Name{URI: r.upTo('}'), Local: local}
}

// condition reads a condition behind its [.
func (r *reader) condition() condition {
	var c condition
	if r.take('@') {
		c.name = r.name(r.local())
		c.such = r.value()
	} else {
		c.number = r.number()
	}
	r.need(']')
	return c
}

// value reads what is asked of an attribute behind its name.
func (r *reader) value() func(string) bool {
	switch {
	case r.take('='):
		r.need('\'')
		return is(r.upTo('\''))
	case r.take('~'):
		x := r.whole()
		r.need(',')
		return goesRound(complex(x, r.whole()))
	}
	return isAny
}

// number reads the number of a condition.
func (r *reader) number() int {
	if r.sees('0', '0') {
		r.giveUp()
	}
	return r.digits(6)
}

// whole reads a whole number, of a spot.
func (r *reader) whole() float64 {
	if r.take('-') {
		return float64(-r.digits(7))
	}
	return float64(r.digits(7))
}

// digits reads the digits there, one at least, and leaves what are more than most.
func (r *reader) digits(most int) int {
	first := r.at
	for r.at-first < most && r.sees('0', '9') {
		r.at++
	}
	n, e := strconv.Atoi(string(r.text[first:r.at]))
	if e != nil {
		r.giveUp()
	}
	return n
}
