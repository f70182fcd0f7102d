package trail

import (
	"slices"
	"strconv"
	"strings"

	"lectern/api"
	"lectern/char"
)

const maxStep = 999999999

// Show is a trail's text.
func Show(t Trail) (string, api.Errno) {
	if !isRight(t) {
		return "", api.ErrPath
	}
	if len(t.Steps) == 0 && !t.Attr {
		return "/", api.OK
	}
	var w strings.Builder
	for _, step := range t.Steps {
		w.WriteString("/" + strconv.Itoa(step))
	}
	if t.Attr {
		w.WriteString("/@" + t.Name.Local)
		if t.Name.URI != "" {
			w.WriteString("{" + t.Name.URI + "}")
		}
	}
	return w.String(), api.OK
}

// Read is the trail that a text says.
func Read(s string) (Trail, api.Errno) {
	t := guess(s)
	// A right trail has one text alone: what is spelt otherwise, or wrong, is found by this.
	if text, e := Show(t); e != api.OK || text != s {
		return Trail{}, api.ErrPath
	}
	return t, api.OK
}

// guess is the trail whose text s is, if there is one, else just any.
func guess(s string) Trail {
	var t Trail
	// No step has an @ in it: the first one ends them, whatever a space has behind it.
	steps, name, attr := strings.Cut(s, "/@")
	if attr {
		local, space, _ := strings.Cut(name, "{")
		space = strings.TrimSuffix(space, "}")
		t.Attr, t.Name = true, api.Name{URI: strings.Clone(space), Local: strings.Clone(local)}
	}
	for _, word := range strings.Split(strings.TrimSuffix(steps, "/"), "/")[1:] {
		step, _ := strconv.Atoi(word) // of what is no number it isn't shown again
		t.Steps = append(t.Steps, step)
	}
	return t
}

// isRight says whether a trail has a text.
func isRight(t Trail) bool {
	if len(t.Steps) > api.MaxSteps || slices.ContainsFunc(t.Steps, func(step int) bool { return step < 0 || step > maxStep }) {
		return false
	}
	if !t.Attr {
		return t.Name == api.Name{}
	}
	_, e := char.Fault([]byte(t.Name.URI))
	return char.Name(t.Name.Local) && len(t.Name.URI) <= api.MaxName && e == api.OK
}
