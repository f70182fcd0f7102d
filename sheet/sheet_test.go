package sheet

import (
	"bytes"
	"encoding/hex"
	"math"
	"slices"
	"strings"
	"testing"

	"lectern/api"
	"lectern/drum"
)

// look looks whether a call was answered so.
func look(t *testing.T, what string, got, want api.Errno) {
	t.Helper()
	if got != want {
		t.Errorf("%s: %d, not %d", what, got, want)
	}
}

func lookNoBytes(t *testing.T, what string, b []byte, got, want api.Errno) {
	t.Helper()
	if len(b) != 0 || got != want {
		t.Errorf("%s: %x, %d, not %d", what, b, got, want)
	}
}

func lookTake(t *testing.T, n int, b, want []byte, wantStamp uint64) {
	t.Helper()
	old := slices.Clone(b)
	p, stamp, e := Take(n, b)
	if !bytes.Equal(p, want) || stamp != wantStamp || e != api.OK {
		t.Errorf("P15.2: Take(%d): %x, %d, %d, not %x, %d", n, p, stamp, e, want, wantStamp)
	}
	if !bytes.Equal(b, old) {
		t.Errorf("Take(%d) changes what is handed in", n)
	}
}

func lookNoTake(t *testing.T, n int, b []byte, want api.Errno) {
	t.Helper()
	if p, stamp, e := Take(n, b); len(p) != 0 || stamp != 0 || e != want {
		t.Errorf("P15.2: Take(%d) of %d bytes: %x, %d, %d, not %d", n, len(b), p, stamp, e, want)
	}
}

func lookNoHead(t *testing.T, what string, b []byte, want api.Errno) {
	t.Helper()
	if h, e := TakeHead(b); h != (Head{}) || e != want {
		t.Errorf("P15.3: TakeHead of %s: %v, %d, not %d", what, h, e, want)
	}
}

// row is so many bytes, none of them 0.
func row(size int) []byte {
	p := make([]byte, size)
	for i := range p {
		p[i] = byte(1 + i%255)
	}
	return p
}

// whole is a page's bytes, and bytes 0 behind.
func whole(p []byte) []byte { return slices.Concat(p, make([]byte, 496-len(p))) }

// unhexed is what hexadecimal digits say, blanks left out.
func unhexed(t *testing.T, s string) []byte {
	t.Helper()
	b, err := hex.DecodeString(strings.ReplaceAll(s, " ", ""))
	if err != nil {
		t.Fatal(err)
	}
	return b
}

func TestExamples(t *testing.T) {
	if p, e := Draft(100); p != (Plan{Log: 25, Base: 27, Pages: 9}) || e != api.OK {
		t.Errorf("P15.1: Draft(100): %v, %d", p, e)
	}
	if p, e := Draft(63); p != (Plan{}) || e != api.ErrArg {
		t.Errorf("P15.1: Draft(63): %v, %d", p, e)
	}
	b, e := Lay(1, 7, []byte("a"))
	if len(b) != 512 || b[16] != 'a' || e != api.OK {
		t.Errorf("P15.2: Lay(1, 7, a): %x, %d", b, e)
	}
}

func TestP15_1(t *testing.T) {
	for _, n := range []int{63, 62, 1, 0, -1, -64, -100, math.MinInt, 16385, 16386, 32768, 1 << 32, 1<<32 + 100, math.MaxInt} {
		if p, e := Draft(n); p != (Plan{}) || e != api.ErrArg {
			t.Errorf("P15.1: Draft(%d): %v, %d", n, p, e)
		}
	}
	for n := 64; n <= 16384; n++ {
		if p, e := Draft(n); p != modelPlan(n) || e != api.OK {
			t.Fatalf("P15.1: Draft(%d): %v, %d, not %v", n, p, e, modelPlan(n))
		}
	}
	for n, want := range map[int]Plan{64: {16, 18, 5}, 65: {16, 18, 5}, 66: {16, 18, 6}, 67: {16, 18, 6}, 68: {17, 19, 6}, 16384: {4096, 4098, 1535}} {
		if p, _ := Draft(n); p != want {
			t.Errorf("P15.1: Draft(%d): %v, not %v", n, p, want)
		}
	}
}

// TestP15_2Bytes: what Lay lays, byte by byte.
func TestP15_2Bytes(t *testing.T) {
	for _, l := range []struct {
		n     int
		stamp uint64
		p     []byte
		want  string
	}{
		{0, 0, nil, "00000000 0000000000000000"},
		{1, 7, []byte("a"), "00000001 0000000000000007 61"},
		{0xfedcba98, 0xf1e2d3c4b5a69788, []byte{0, 1, 255}, "fedcba98 f1e2d3c4b5a69788 0001ff"},
		{1<<32 - 1, math.MaxUint64, row(496), "ffffffff ffffffffffffffff" + hex.EncodeToString(row(496))},
		{256, 1 << 32, row(495), "00000100 0000000100000000" + hex.EncodeToString(row(495))},
	} {
		b, e := Lay(l.n, l.stamp, l.p)
		body := unhexed(t, "00000000"+l.want)
		want := mended(append(body, make([]byte, 512-len(body))...))
		if !bytes.Equal(b, want) || e != api.OK {
			t.Errorf("P15.2: Lay(%d, %d, %x): %x, %d, not %x", l.n, l.stamp, l.p, b, e, want)
		}
		lookTake(t, l.n, b, whole(l.p), l.stamp)
	}
}

func TestP15_2LayErrors(t *testing.T) {
	for _, n := range []int{-1, math.MinInt, 1 << 32, 1<<32 + 1, math.MaxInt} {
		for _, p := range [][]byte{nil, row(496), row(497), row(100000)} {
			b, e := Lay(n, 1, p)
			lookNoBytes(t, "P15.2: Lay of a number beyond all pages", b, e, api.ErrArg)
		}
	}
	for _, n := range []int{0, 1, 1<<32 - 1} {
		for _, size := range []int{497, 498, 512, 100000} {
			b, e := Lay(n, 1, make([]byte, size))
			lookNoBytes(t, "P15.2: Lay of too much", b, e, api.ErrLong)
		}
	}
}

// TestP15_2Errors: which error Take asks first.
func TestP15_2Errors(t *testing.T) {
	right, blank := modelPage(5, 9, row(496)), make([]byte, 512)
	wrong := slices.Clone(right)
	wrong[100] ^= 1
	for _, n := range []int{-1, math.MinInt, 1 << 32, 1<<32 + 5, math.MaxInt} {
		for _, b := range [][]byte{nil, right, wrong, blank, right[:511]} {
			lookNoTake(t, n, b, api.ErrArg)
		}
	}
	for _, b := range [][]byte{nil, {}, right[:1], right[:511], blank[:511], wrong[:511], append(right[:512:512], 0), append(blank[:512:512], 0), row(100000), make([]byte, 64), make([]byte, 496), make([]byte, 1024)} {
		lookNoTake(t, 5, b, api.ErrLong)
	}
	for _, n := range []int{5, 4, 0} {
		lookNoTake(t, n, wrong, api.ErrSum)
		lookTake(t, n, blank, make([]byte, 496), 0)
	}
	lookTake(t, 1<<32-1, blank, make([]byte, 496), 0)
	lookTake(t, 5, right, row(496), 9)
	for _, n := range []int{0, 4, 6, 5 << 8, 5 + 1<<8, 5 + 1<<16, 5 + 1<<24, 1<<32 - 1} {
		lookNoTake(t, n, right, api.ErrForm)
	}
	// A page that holds nothing is none that is blank.
	lookTake(t, 0, modelPage(0, 0, nil), make([]byte, 496), 0)
	lookTake(t, 0, modelPage(0, 3, nil), make([]byte, 496), 3)
	lookNoTake(t, 1, modelPage(0, 0, nil), api.ErrForm)
}

// TestP15_5Turned: a page one of whose bytes is turned is ErrSum, whatever its number and whoever asks.
func TestP15_5Turned(t *testing.T) {
	for _, b := range [][]byte{modelPage(0, 0, nil), modelPage(3, 1<<40+5, row(496)), modelPage(1<<32-1, 1, []byte("abc")), make([]byte, 512)} {
		for at := range 512 {
			for _, turn := range []byte{1, 2, 4, 8, 16, 32, 64, 128, 255, byte(1 + at%255)} {
				c := slices.Clone(b)
				c[at] ^= turn
				for _, n := range []int{0, 3, 1<<32 - 1} {
					lookNoTake(t, n, c, api.ErrSum)
				}
			}
		}
	}
	b := modelPage(2, 6, row(400))
	for at := range 512 {
		for turn := 1; turn < 256; turn++ {
			c := slices.Clone(b)
			c[at] ^= byte(turn)
			if _, _, e := Take(2, c); e != api.ErrSum {
				t.Fatalf("P15.5: byte %d turned by %x: %d", at, turn, e)
			}
		}
	}
}

// TestP15_3Bytes: what LayHead lays, byte by byte.
func TestP15_3Bytes(t *testing.T) {
	for _, l := range []struct {
		h    Head
		want string
	}{
		{Head{1, 0}, "4c454354 00000001 0000000000000000"},
		{Head{258, 7}, "4c454354 00000102 0000000000000007"},
		{Head{0xfedcba98, 0xf1e2d3c4b5a69788}, "4c454354 fedcba98 f1e2d3c4b5a69788"},
		{Head{1<<32 - 1, math.MaxUint64}, "4c454354 ffffffff ffffffffffffffff"},
	} {
		b, e := LayHead(l.h)
		want := mended(unhexed(t, "00000000"+l.want+strings.Repeat("00", 44)))
		if !bytes.Equal(b, want) || e != api.OK {
			t.Errorf("P15.3: LayHead(%v): %x, %d, not %x", l.h, b, e, want)
		}
		if h, e := TakeHead(want); h != l.h || e != api.OK {
			t.Errorf("P15.3: TakeHead(%x): %v, %d, not %v", want, h, e, l.h)
		}
	}
	for _, gen := range []int{0, -1, -258, math.MinInt, 1 << 32, 1<<32 + 1, math.MaxInt} {
		b, e := LayHead(Head{gen, 1})
		lookNoBytes(t, "P15.3: LayHead", b, e, api.ErrArg)
	}
}

// TestP15_3Errors: which error TakeHead asks first, and what isn't a head though its sum is right.
func TestP15_3Errors(t *testing.T) {
	right := modelHead("LECT", 5, 9, "")
	for _, b := range [][]byte{nil, {}, right[:1], right[:63], right[:20], append(right[:64:64], 0), make([]byte, 512), row(100000)} {
		lookNoHead(t, "a wrong number of bytes", b, api.ErrLong)
	}
	lookNoHead(t, "a blank sector", make([]byte, 64), api.ErrSum)
	for _, b := range [][]byte{right, modelHead("LECT", 0, 9, ""), modelHead("LECT", 1<<32-1, math.MaxUint64, "")} {
		for at := range 64 {
			for turn := 1; turn < 256; turn++ {
				c := slices.Clone(b)
				c[at] ^= byte(turn)
				lookNoHead(t, "a turned byte", c, api.ErrSum)
			}
		}
	}
	for what, b := range map[string][]byte{
		"the generation 0":       modelHead("LECT", 0, 9, ""),
		"nothing":                modelHead("", 0, 0, ""),
		"no mark":                modelHead("", 5, 9, ""),
		"another mark":           modelHead("LECU", 5, 9, ""),
		"a mark in small":        modelHead("lect", 5, 9, ""),
		"a mark's begin":         modelHead("LEC", 5, 9, ""),
		"a mark turned about":    modelHead("TCEL", 5, 9, ""),
		"a mark that is wrong":   modelHead("MECT", 5, 9, ""),
		"a byte behind":          modelHead("LECT", 5, 9, "\x01"),
		"a byte behind, further": modelHead("LECT", 5, 9, "\x00\x00\x80"),
		"a byte at the end":      modelHead("LECT", 5, 9, strings.Repeat("\x00", 43)+"\x01"),
		"bytes behind":           modelHead("LECT", 5, 9, strings.Repeat("\xff", 44)),
	} {
		lookNoHead(t, what, b, api.ErrForm)
	}
	// The sum's own polynomial: bytes behind that don't change the sum.
	same := modelHead("LECT", 5, 9, "\x41\x06\x71\xdb\x01")
	if !bytes.Equal(same[:20], right[:20]) {
		t.Errorf("the sum is another one: %x", same)
	}
	lookNoHead(t, "bytes behind that the sum doesn't show", same, api.ErrForm)
	old := slices.Clone(right)
	if h, e := TakeHead(right); h != (Head{5, 9}) || e != api.OK || !bytes.Equal(right, old) {
		t.Errorf("P15.3: TakeHead: %v, %d", h, e)
	}
	// Where a mark, a generation and bytes behind would be wrong, too, the sum comes first.
	c := modelHead("", 0, 0, "x")
	c[30] ^= 1
	lookNoHead(t, "what is wrong in all ways", c, api.ErrSum)
}

// spoil writes into a row of bytes, spare room too.
func spoil(p []byte) {
	p = p[:cap(p)]
	for i := range p {
		p[i] = 0xee
	}
}

func TestMemory(t *testing.T) {
	room := row(500)
	b, _ := Lay(1, 2, room[:10])
	again, _ := Lay(1, 2, room[:10])
	if !bytes.Equal(room, row(500)) {
		t.Error("Lay changes what is handed in")
	}
	spoil(room)
	if !bytes.Equal(b, modelPage(1, 2, row(10))) {
		t.Error("Lay keeps what is handed in")
	}
	p, _, _ := Take(1, again)
	blank, _, _ := Take(1, make([]byte, 512))
	spoil(b)
	lookTake(t, 1, again, whole(row(10)), 2)
	spoil(again)
	if !bytes.Equal(p, whole(row(10))) {
		t.Error("Take's bytes are those that are handed in")
	}
	spoil(p)
	spoil(blank)
	lookTake(t, 1, make([]byte, 512), make([]byte, 496), 0)
	head, _ := LayHead(Head{1, 2})
	spoil(head)
	if b, _ := LayHead(Head{1, 2}); !bytes.Equal(b, modelHead("LECT", 1, 2, "")) {
		t.Errorf("LayHead's bytes are those of an earlier answer: %x", b)
	}
	d := newDrum(t, 64, 0)
	room = row(496)
	look(t, "Put", Put(d, 1, 2, room[:300]), api.OK)
	if !bytes.Equal(room, row(496)) {
		t.Error("Put changes what is handed in")
	}
	spoil(room)
	lookGet(t, d, 1, whole(row(300)), 2)
	p, _, _ = Get(d, 1)
	spoil(p)
	lookGet(t, d, 1, whole(row(300)), 2)
}

// TestP1Zero: nothing is promised of a drum that no New made, but that no call panics; it has no sectors, so it has no plan.
func TestP1Zero(t *testing.T) {
	d := new(drum.Drum)
	look(t, "Put", Put(d, 0, 0, nil), api.ErrArg)
	look(t, "PutHead", PutHead(d, Head{Gen: 1}), api.ErrArg)
	lookNoGet(t, d, 0, api.ErrArg)
	lookNoNewest(t, d, api.ErrArg)
}
