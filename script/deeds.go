package script

import (
	"strconv"

	"lectern/api"
	"lectern/audit"
	"lectern/base"
	"lectern/drum"
	"lectern/edit"
	"lectern/trail"
)

// makesBase is the first word of the line that needs no base.
const makesBase = "new"

// deed is what the lines of one first word do, and which words stand behind that.
type deed struct {
	do   func(c *Console, o order) string
	form []kind
}

// deeds is what lines do, by their first words.
func deeds() map[string]deed {
	return map[string]deed{
		makesBase: {(*Console).renew, []kind{aNumber, aNumber}},
		"begin":   {plainly((*base.Base).Begin), nil},
		"commit":  {plainly((*base.Base).Commit), nil},
		"abort":   {plainly((*base.Base).Abort), nil},
		"check":   {plainly((*base.Base).Checkpoint), nil},
		"put":     {(*Console).put, []kind{aName, aText}},
		"drop":    {func(c *Console, o order) string { return answer(c.base.Drop(o.name)) }, []kind{aName}},
		"insert":  {editing(edit.Insert), []kind{aName, aTrail, aNode}},
		"replace": {editing(edit.Replace), []kind{aName, aTrail, aNode}},
		"delete":  {editing(edit.Delete), []kind{aName, aTrail}},
		"write":   {editing(edit.Write), []kind{aName, aTrail, aText}},
		"set":     {editing(edit.Set), []kind{aName, anAttr, aText}},
		"unset":   {editing(edit.Drop), []kind{aName, anAttr}},
		"names":   {(*Console).names, nil},
		"export":  {(*Console).export, []kind{aName}},
		"pick":    {(*Console).pick, []kind{aName, aText}},
		"audit":   {(*Console).audit, nil},
		"look":    {(*Console).look, nil},
		"crash":   {(*Console).crash, []kind{someBits}},
		"fuse":    {func(c *Console, o order) string { return answer(c.drum.Fuse(o.numbers[0])) }, []kind{aNumber}},
	}
}

// plainly does what is told nothing but the base, and tells nothing but whether all is well.
func plainly(call func(*base.Base) api.Errno) func(*Console, order) string {
	return func(c *Console, _ order) string { return answer(call(c.base)) }
}

// editing does edits with one Op; what that doesn't name isn't looked at.
func editing(op int) func(*Console, order) string {
	return func(c *Console, o order) string {
		e := edit.Edit{Op: op, At: o.trail.Steps, Name: o.trail.Name, Text: o.text, Node: o.node}
		return answer(c.base.Edit(o.name, e))
	}
}

// renew makes a new drum, and the base on it.
func (c *Console) renew(o order) string {
	d, e := drum.New(o.numbers[0])
	if e != api.OK {
		*c = Console{}
		return answer(e)
	}
	return c.open(d, o.numbers[1])
}

// crash lets the power go, and opens the base anew.
func (c *Console) crash(o order) string {
	if e := c.drum.Crash(o.bits); e != api.OK {
		*c = Console{}
		return answer(e)
	}
	return c.open(c.drum, c.frames)
}

// open opens the base on a drum; where that is refused there is none any more.
func (c *Console) open(d *drum.Drum, frames int) string {
	b, e := base.Open(d, frames)
	if e != api.OK {
		*c = Console{}
		return answer(e)
	}
	*c = Console{drum: d, base: b, frames: frames}
	return answer(api.OK)
}

func (c *Console) put(o order) string {
	at, e := c.base.Put(o.name, []byte(o.text))
	return placed(at, e)
}

func (c *Console) names(order) string {
	l, e := c.base.Names()
	return answer(e, l...)
}

func (c *Console) export(o order) string {
	b, e := c.base.Export(o.name)
	return answer(e, string(b))
}

func (c *Console) pick(o order) string {
	l, at, e := c.base.Pick(o.name, o.text)
	var words []string
	for _, t := range l {
		s, _ := trail.Show(t) // what is picked is right
		words = append(words, s)
	}
	return placed(at, e, words...)
}

func (c *Console) audit(order) string {
	r, e := audit.Run(c.base)
	return answer(e, strconv.Itoa(r.Docs), strconv.Itoa(r.Nodes), strconv.Itoa(r.Pages))
}

func (c *Console) look(order) string {
	s, e := audit.Look(c.drum)
	return answer(e, strconv.Itoa(s.Gen), strconv.Itoa(s.Groups))
}
