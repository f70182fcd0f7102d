package octet

import (
	"bytes"
	"encoding/binary"
	"math"
	"testing"

	"lectern/sample"
)

func TestBytes(t *testing.T) {
	for _, l := range []struct {
		v    uint64
		size int
		want string
	}{
		{0, 0, ""}, {0, -1, ""}, {1, math.MinInt, ""}, {0, 1, "\x00"}, {255, 1, "\xff"}, {256, 1, "\x00"}, {0x1234, 1, "\x34"},
		{0x1234, 2, "\x12\x34"}, {0x1234, 4, "\x00\x00\x12\x34"}, {math.MaxUint64, 8, "\xff\xff\xff\xff\xff\xff\xff\xff"},
		{0x0102030405060708, 8, "\x01\x02\x03\x04\x05\x06\x07\x08"}, {0x0102030405060708, 9, "\x00\x01\x02\x03\x04\x05\x06\x07\x08"},
	} {
		if b := Bytes(l.v, l.size); string(b) != l.want {
			t.Errorf("Bytes(%x, %d): %x, not %x", l.v, l.size, b, l.want)
		}
	}
}

func TestNumber(t *testing.T) {
	for s, want := range map[string]uint64{"": 0, "\x00": 0, "\x80": 128, "\x01\x02": 258, "\x00\x00\x01\x00": 256, "\xff\xff\xff\xff\xff\xff\xff\xff": math.MaxUint64, "\x09\x00\x00\x00\x00\x00\x00\x00\x01": 1} {
		if v := Number([]byte(s)); v != want {
			t.Errorf("Number(%x): %x, not %x", s, v, want)
		}
	}
}

func TestBoth(t *testing.T) {
	dice := sample.Dice(91)
	for range 10000 {
		v := (uint64(dice.Under(1<<31))<<40 ^ uint64(dice.Under(1<<31))<<20 ^ uint64(dice.Under(1<<31))) >> dice.Under(64)
		b := Bytes(v, 8)
		if !bytes.Equal(b, binary.BigEndian.AppendUint64(nil, v)) || Number(b) != v {
			t.Fatalf("%x: %x, %x", v, b, Number(b))
		}
		size := dice.Under(9)
		if s := Bytes(v, size); !bytes.Equal(s, b[8-size:]) || Number(s) != Number(b[8-size:]) {
			t.Fatalf("Bytes(%x, %d): %x", v, size, s)
		}
	}
}
