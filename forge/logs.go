package forge

import (
	"lectern/drum"
)

// Log is a drum of 400 sectors, with the pages 0 to 36, on whose log groups of the head's generation stand; IsRight says whether a vault may have written them.
type Log struct {
	Drum    *drum.Drum
	IsRight bool
}

// Logs is such drums: the generation is 3, the head's stamp 5, and by page 0 the page 1 is taken.
func Logs(t T) []Log {
	t.Helper()
	var l []Log
	for _, groups := range rightGroups() {
		l = append(l, Log{logged(t, groups), true})
	}
	for _, groups := range wrongGroups() {
		l = append(l, Log{logged(t, groups), false})
	}
	return l
}

// logged is a drum with these groups.
func logged(t T, groups [][]byte) *drum.Drum {
	t.Helper()
	d := NewDrum(t, 400)
	LayPage(t, d, 0, 5, MapOf(1))
	LayPage(t, d, 1, 5, "one")
	LayHead(t, d, 3, 5)
	LayGroups(t, d, 3, groups...)
	return d
}

// good is a group that is right behind that head.
func good() []byte { return GroupOf(1, 6, PageOf(1, "good")) }

func rightGroups() [][][]byte {
	return [][][]byte{
		{},
		{good()},
		{GroupOf(1, 6, PageOf(36, ""))},
		{GroupOf(2, 6, PageOf(0, MapOf(1)), PageOf(36, ""))},
		{good(), GroupOf(1, 7, PageOf(1, "more"))},
		{good(), GroupOf(2, 7, PageOf(0, MapOf(1, 9)), PageOf(9, "new")), GroupOf(2, 8, PageOf(0, MapOf(1)), PageOf(1, "one"))},
	}
}

func wrongGroups() [][][]byte {
	return [][][]byte{
		{nil},
		{{0}},
		{{0, 1}},
		{good()[:9]},
		{good()[:10]},
		{good()[:509]},
		{append(good(), 0)},
		{GroupOf(0, 6)},
		{GroupOf(0, 6, PageOf(1, ""))},
		{GroupOf(2, 6, PageOf(1, ""))},
		{GroupOf(1, 6, PageOf(1, ""), PageOf(2, ""))},
		{GroupOf(65535, 6, PageOf(1, ""))},
		{GroupOf(1, 6, PageOf(37, ""))},
		{GroupOf(1, 6, PageOf(1<<32-1, ""))},
		{GroupOf(2, 6, PageOf(1, ""), PageOf(37, ""))},
		{GroupOf(2, 6, PageOf(2, ""), PageOf(1, ""))},
		{GroupOf(2, 6, PageOf(1, ""), PageOf(1, ""))},
		{GroupOf(1, 5, PageOf(1, ""))},
		{GroupOf(1, 7, PageOf(1, ""))},
		{GroupOf(1, 6|1<<63, PageOf(1, ""))},
		{good(), GroupOf(1, 6, PageOf(1, ""))},
		{good(), GroupOf(1, 8, PageOf(1, ""))},
		{good(), good()[:20]},
		{good(), GroupOf(1, 7, PageOf(37, ""))},
	}
}
