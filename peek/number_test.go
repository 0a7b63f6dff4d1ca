package peek_test

import (
	"bytes"
	"math"
	"testing"

	"versal/peek"
)

// reader is one of the calls that tell a number, with how many bytes it takes.
type reader struct {
	name   string
	call   func(b []byte, at int) (int, bool)
	wide   int
	signed bool
}

func readers() []reader {
	return []reader{
		{"U8", peek.U8, 1, false},
		{"U16", peek.U16, 2, false},
		{"I16", peek.I16, 2, true},
		{"U24", peek.U24, 3, false},
		{"U32", peek.U32, 4, false},
		{"I32", peek.I32, 4, true},
	}
}

// weighed works the number out by weights, not by shifts, to hold the calls against.
func weighed(part []byte, signed bool) int {
	sum, weight := 0, 1
	for k := len(part) - 1; k >= 0; k-- {
		sum += weight * int(part[k])
		weight *= 256
	}
	if signed && part[0] > 127 {
		sum -= weight
	}
	return sum
}

// 2.1: each width, the highest byte first; two's complement of I16 and I32.
func TestNumbersAsWritten(t *testing.T) {
	for _, c := range []struct {
		name string
		call func(b []byte, at int) (int, bool)
		b    []byte
		at   int
		want int
	}{
		{"the chapter's example", peek.I16, []byte{0xff, 0xfe}, 0, -2},
		{"U8 least", peek.U8, []byte{0}, 0, 0},
		{"U8 sign bit", peek.U8, []byte{0x80}, 0, 128},
		{"U8 greatest", peek.U8, []byte{0xff}, 0, 255},
		{"U16 order", peek.U16, []byte{1, 2}, 0, 0x0102},
		{"U16 sign bit", peek.U16, []byte{0x80, 0}, 0, 32768},
		{"U16 greatest", peek.U16, []byte{0xff, 0xff}, 0, 65535},
		{"I16 order", peek.I16, []byte{1, 2}, 0, 0x0102},
		{"I16 zero", peek.I16, []byte{0, 0}, 0, 0},
		{"I16 minus one", peek.I16, []byte{0xff, 0xff}, 0, -1},
		{"I16 least", peek.I16, []byte{0x80, 0}, 0, math.MinInt16},
		{"I16 greatest", peek.I16, []byte{0x7f, 0xff}, 0, math.MaxInt16},
		{"I16 high bit of the low byte", peek.I16, []byte{0, 0x80}, 0, 128},
		{"U24 order", peek.U24, []byte{1, 2, 3}, 0, 0x010203},
		{"U24 sign bit", peek.U24, []byte{0x80, 0, 0}, 0, 1 << 23},
		{"U24 greatest", peek.U24, []byte{0xff, 0xff, 0xff}, 0, 1<<24 - 1},
		{"U32 order", peek.U32, []byte{1, 2, 3, 4}, 0, 0x01020304},
		{"U32 sign bit", peek.U32, []byte{0x80, 0, 0, 0}, 0, 1 << 31},
		{"U32 greatest", peek.U32, []byte{0xff, 0xff, 0xff, 0xff}, 0, 1<<32 - 1},
		{"I32 order", peek.I32, []byte{1, 2, 3, 4}, 0, 0x01020304},
		{"I32 minus one", peek.I32, []byte{0xff, 0xff, 0xff, 0xff}, 0, -1},
		{"I32 minus two", peek.I32, []byte{0xff, 0xff, 0xff, 0xfe}, 0, -2},
		{"I32 least", peek.I32, []byte{0x80, 0, 0, 0}, 0, math.MinInt32},
		{"I32 greatest", peek.I32, []byte{0x7f, 0xff, 0xff, 0xff}, 0, math.MaxInt32},
		{"I32 high bit of a low byte", peek.I32, []byte{0, 0, 0x80, 0}, 0, 32768},
		{"U8 inside", peek.U8, []byte{9, 8, 7}, 1, 8},
		{"U16 inside", peek.U16, []byte{9, 1, 2, 9}, 1, 0x0102},
		{"I16 inside", peek.I16, []byte{9, 0xff, 0xfe, 9}, 1, -2},
		{"U24 inside", peek.U24, []byte{9, 1, 2, 3, 9}, 1, 0x010203},
		{"U32 inside", peek.U32, []byte{9, 9, 1, 2, 3, 4, 9}, 2, 0x01020304},
		{"I32 inside", peek.I32, []byte{9, 9, 0x80, 0, 0, 1, 9}, 2, math.MinInt32 + 1},
	} {
		if got, ok := c.call(c.b, c.at); got != c.want || !ok {
			t.Errorf("%s: %d, %t, not %d", c.name, got, ok, c.want)
		}
	}
}

// 2.1: each pair of bytes, and each byte at each place of a number.
func TestNumbersAll(t *testing.T) {
	for n := range 1 << 16 {
		b := []byte{byte(n >> 8), byte(n)}
		if got, ok := peek.U16(b, 0); got != n || !ok {
			t.Fatalf("U16 of % x: %d, %t", b, got, ok)
		}
		want := n
		if n >= 1<<15 {
			want -= 1 << 16
		}
		if got, ok := peek.I16(b, 0); got != want || !ok {
			t.Fatalf("I16 of % x: %d, %t", b, got, ok)
		}
	}
	for _, r := range readers() {
		for place := range r.wide {
			for n := range 256 {
				b := bytes.Repeat([]byte{0xa5}, r.wide)
				b[place] = byte(n)
				want := weighed(b, r.signed)
				if got, ok := r.call(b, 0); got != want || !ok {
					t.Fatalf("%s of % x: %d, %t, not %d", r.name, b, got, ok, want)
				}
			}
		}
	}
}

// 2.1: of every length and at every place about it: there just where all its
// bytes are, so the last place holds and the one behind it does not.
func TestNumbersAtTheEdges(t *testing.T) {
	whole := []byte{0xff, 0x01, 0x80, 0x7f, 0xfe, 0x02, 0xc3}
	for _, r := range readers() {
		for length := range len(whole) + 1 {
			b := whole[:length:length]
			for at := -5; at <= length+5; at++ {
				got, ok := r.call(b, at)
				there := at >= 0 && at+r.wide <= length
				want := 0
				if there {
					want = weighed(b[at:at+r.wide], r.signed)
				}
				if got != want || ok != there {
					t.Errorf("%s of %d bytes at %d: %d, %t", r.name, length, at, got, ok)
				}
			}
		}
	}
}

// 2.1: bytes in the spare room are not there.
func TestNumbersNotOfSpareRoom(t *testing.T) {
	whole := []byte{1, 2, 3, 4, 5, 6, 7, 8}
	for _, r := range readers() {
		b := whole[:r.wide-1]
		if got, ok := r.call(b, 0); got != 0 || ok {
			t.Errorf("%s of %d bytes: %d, %t", r.name, len(b), got, ok)
		}
	}
}

// far are places and counts at which nothing can be, whatever is handed in.
func far() []int {
	return []int{
		math.MinInt, math.MinInt + 1, math.MinInt + 2, math.MinInt + 3, math.MinInt + 4, math.MinInt + 5,
		math.MinInt / 2, math.MinInt32 - 1, math.MinInt32, -65536, -5, -4, -3, -2, -1,
		9, 255, 256, 65536, math.MaxInt32, math.MaxInt32 + 1, math.MaxUint32, math.MaxUint32 + 1, math.MaxInt / 2,
		math.MaxInt - 5, math.MaxInt - 4, math.MaxInt - 3, math.MaxInt - 2, math.MaxInt - 1, math.MaxInt,
	}
}

// 2.1, R1, R5: any place may be asked for; nil and an empty list hold nothing.
func TestNumbersOfNoPlace(t *testing.T) {
	for _, r := range readers() {
		for _, b := range [][]byte{nil, {}, {0xff, 0xff, 0xff, 0xff, 0xff, 0xff, 0xff, 0xff}} {
			for _, at := range far() {
				if got, ok := r.call(b, at); got != 0 || ok {
					t.Errorf("%s of %d bytes at %d: %d, %t", r.name, len(b), at, got, ok)
				}
			}
		}
		for _, b := range [][]byte{nil, {}} {
			if got, ok := r.call(b, 0); got != 0 || ok {
				t.Errorf("%s of nothing: %d, %t", r.name, got, ok)
			}
		}
	}
}

// R2: what is handed in stays as it is, its spare room included.
func TestNumbersChangeNothing(t *testing.T) {
	whole := []byte{1, 2, 3, 4, 5, 6, 7, 8}
	before := bytes.Clone(whole)
	for _, r := range readers() {
		for at := -1; at <= 7; at++ {
			r.call(whole[:6], at)
		}
	}
	if !bytes.Equal(whole, before) {
		t.Errorf("changed: % x", whole)
	}
}
