package zlib_test

import (
	"math"
	"slices"
	"strconv"
	"testing"

	"versal/api"
	"versal/flate"
	"versal/sample"
	"versal/zlib"
)

// bodies answers deflated texts of each kind of block, with what they say.
func bodies() [][2][]byte {
	all := [][2][]byte{
		{{0x03, 0x00}, nil},
		{{0x4b, 0x4c, 0x4a, 0x06, 0x00}, []byte("abc")},
		{{0x00, 0x01, 0x00, 0xfe, 0xff, 'x', 0x03, 0x00}, []byte("x")},
	}
	for _, n := range []int{0, 1, 2, 50, 300} {
		text := sample.Bytes(n, n)
		all = append(all, [2][]byte{flate.Stored(text), text})
	}
	return all
}

// 9.1: the chapter's example.
func TestExample(t *testing.T) {
	b := []byte{0x78, 0x01, 0x01, 0x00, 0x00, 0xff, 0xff, 0x00, 0x00, 0x00, 0x01}
	for _, most := range []int{math.MinInt, -1, 0, 1, math.MaxInt} {
		hold(t, "the example", b, most, "", api.OK)
	}
}

// 9.1: none, one, two and three bytes are left for the Adler, whether they are
// its first ones or others; four; and more, whichever they are.
func TestHowManyAreLeft(t *testing.T) {
	for _, c := range bodies() {
		body, text := c[0], c[1]
		b := framed(body, text)
		fine(t, "four are left", b, string(text))
		for n := range 4 {
			what := strconv.Itoa(n) + " are left"
			wrong(t, what, b[:len(b)-4+n], api.ErrShort)
			wrong(t, what+", others", slices.Concat(b[:2], body, []byte{9, 9, 9}[:n]), api.ErrShort)
		}
		for n := 1; n <= 9; n++ {
			what := strconv.Itoa(n) + " more"
			wrong(t, what, append(slices.Clone(b), make([]byte, n)...), api.ErrForm)
			wrong(t, what+", unlike one another", append(slices.Clone(b), sample.Bytes(n, n)...), api.ErrForm)
		}
		for x := range 256 {
			wrong(t, "one more", append(slices.Clone(b), byte(x)), api.ErrForm)
		}
		wrong(t, "the Adler twice", append(slices.Clone(b), adler(text)...), api.ErrForm)
		wrong(t, "the frame twice", append(slices.Clone(b), b...), api.ErrForm)
		wrong(t, "one byte ahead of the Adler", slices.Concat(b[:2], body, []byte{0}, adler(text)), api.ErrForm)
	}
}

// 9.1: each byte of the Adler turned, into each other one; and its bytes in
// another order.
func TestAdlerTurned(t *testing.T) {
	for _, c := range bodies() {
		b := framed(c[0], c[1])
		for k := len(b) - 4; k < len(b); k++ {
			for x := 1; x < 256; x++ {
				turned := slices.Clone(b)
				turned[k] ^= byte(x)
				wrong(t, "the Adler's byte "+strconv.Itoa(k-len(b)+4), turned, api.ErrMark)
			}
		}
		about := slices.Clone(b)
		slices.Reverse(about[len(b)-4:])
		wrong(t, "the lowest byte first", about, api.ErrMark)
		if len(c[1]) != 1 { // of one byte both halves are the same
			halves := slices.Concat(b[:len(b)-4], b[len(b)-2:], b[len(b)-4:len(b)-2])
			wrong(t, "the lower half first", halves, api.ErrMark)
		}
	}
	text := []byte("abc")
	wrong(t, "another text's", framed(bodies()[1][0], []byte("abd")), api.ErrMark)
	wrong(t, "no text's", framed(bodies()[1][0], nil), api.ErrMark)
	wrong(t, "of what was deflated", framed(bodies()[1][0], bodies()[1][0]), api.ErrMark)
	fine(t, "of what it says", framed(bodies()[1][0], text), "abc")
}

// 9.1: each bit of the text turned, with the Adler as it was.
func TestTextTurned(t *testing.T) {
	text := sample.Bytes(120, 7)
	b := zlib.Lay(text)
	for k := range text {
		for bit := range 8 {
			turned := slices.Clone(b)
			turned[7+k] ^= 1 << bit
			wrong(t, "byte "+strconv.Itoa(k), turned, api.ErrMark)
		}
	}
	fine(t, "as it was", b, string(text))
}

// 9.1: a byte that was begun counts as used, whatever its other bits are.
func TestBitsThatAreLeft(t *testing.T) {
	for rest := range 64 {
		b := framed([]byte{0x03, byte(rest << 2)}, nil)
		fine(t, "bits that are left", b, "")
		wrong(t, "bits that are left, three bytes", b[:len(b)-1], api.ErrShort)
	}
}

// 9.1: the Adler is that of all bytes, however many, and of what they are.
func TestAdlerOfMany(t *testing.T) {
	high := 0
	for _, n := range []int{1, 255, 256, 5551, 5552, 5553, 65520, 65521, 65535, 65536, 200000} {
		for _, x := range []byte{0, 1, 0x80, 0xff} {
			text := slices.Repeat([]byte{x}, n)
			fine(t, strconv.Itoa(n)+" times "+strconv.Itoa(int(x)), framed(flate.Stored(text), text), string(text))
			high += int(adler(text)[0] >> 7)
		}
	}
	if high == 0 {
		t.Error("no Adler has its highest bit")
	}
}

// 9.1: most below 0, 0, just as many as there are, one less, and far beyond.
func TestMost(t *testing.T) {
	for _, c := range bodies() {
		b, text := framed(c[0], c[1]), string(c[1])
		for _, most := range []int{math.MinInt, math.MinInt + 1, -1 << 31, -2, -1, 0, 1, len(text) - 2, len(text) - 1} {
			if max(most, 0) < len(text) {
				hold(t, "most "+strconv.Itoa(most), b, most, "", api.ErrBig)
			} else {
				hold(t, "most "+strconv.Itoa(most), b, most, text, api.OK)
			}
		}
		for _, most := range []int{len(text), len(text) + 1, 1<<31 - 1, 1 << 32, math.MaxInt} {
			hold(t, "most "+strconv.Itoa(most), b, most, text, api.OK)
		}
	}
}
