package flate_test

import (
	"strconv"
	"strings"
	"testing"

	"versal/api"
	"versal/sample"
)

// lengthRows and distanceRows are RFC 1951's tables (3.2.5): of each symbol
// the first number and how many bits are behind it.
var lengthRows = [29][2]int{
	{3, 0}, {4, 0}, {5, 0}, {6, 0}, {7, 0}, {8, 0}, {9, 0}, {10, 0}, {11, 1}, {13, 1}, {15, 1}, {17, 1},
	{19, 2}, {23, 2}, {27, 2}, {31, 2}, {35, 3}, {43, 3}, {51, 3}, {59, 3}, {67, 4}, {83, 4}, {99, 4},
	{115, 4}, {131, 5}, {163, 5}, {195, 5}, {227, 5}, {258, 0},
}

var distanceRows = [30][2]int{
	{1, 0}, {2, 0}, {3, 0}, {4, 0}, {5, 1}, {7, 1}, {9, 2}, {13, 2}, {17, 3}, {25, 3}, {33, 4}, {49, 4},
	{65, 5}, {97, 5}, {129, 6}, {193, 6}, {257, 7}, {385, 7}, {513, 8}, {769, 8}, {1025, 9}, {1537, 9},
	{2049, 10}, {3073, 10}, {4097, 11}, {6145, 11}, {8193, 12}, {12289, 12}, {16385, 13}, {24577, 13},
}

// row answers the last symbol of a table whose first number is not above n.
func row(rows [][2]int, n int) (symbol, more, size int) {
	for k, r := range rows {
		if r[0] <= n {
			symbol, more, size = k, n-r[0], r[1]
		}
	}
	return symbol, more, size
}

// copied adds a copy by the fixed codes.
func (w *writer) copied(length, distance int) *writer {
	symbol, more, size := row(lengthRows[:], length)
	w.fixed(257+symbol).number(more, size)
	symbol, more, size = row(distanceRows[:], distance)
	return w.far(symbol, more, size)
}

// copyOf answers a text with a copy out of itself behind it.
func copyOf(text string, length, distance int) string {
	b := []byte(text)
	for range length {
		b = append(b, b[len(b)-distance])
	}
	return string(b)
}

// 8.1: the chapter's example.
func TestExample(t *testing.T) {
	hold(t, "03 00", []byte{3, 0}, 0, "", 2, api.OK)
	hold(t, "03 00 and more", []byte{3, 0, 3, 0}, 0, "", 2, api.OK)
	hold(t, "03", []byte{3}, 0, "", 0, api.ErrShort)
	hold(t, "no bytes", nil, 0, "", 0, api.ErrShort)
	hold(t, "no bytes", []byte{}, 9, "", 0, api.ErrShort)
}

// 8.1: each literal, alone and all behind one another, by the fixed code.
func TestFixedLiterals(t *testing.T) {
	w := begin(1, 1)
	var all strings.Builder
	for x := range 256 {
		fine(t, "literal "+strconv.Itoa(x), begin(1, 1).fixed(x, 256), string([]byte{byte(x)}))
		w.fixed(x)
		all.WriteByte(byte(x))
	}
	fine(t, "all literals", w.fixed(256), all.String())
	fine(t, "three blocks", begin(0, 1).fixed('a', 256).head(0, 1).fixed(256).head(1, 1).fixed('b', 'c', 256), "abc")
	hold(t, "of another program", []byte{0x4b, 0x4c, 0x4a, 0x06, 0x00}, 3, "abc", 5, api.OK)
}

// 8.1: copies of each length, of one byte and of more, from near and from far.
func TestEachLength(t *testing.T) {
	text := string(sample.Bytes(400, 3))
	for length := 3; length <= 258; length++ {
		what := "length " + strconv.Itoa(length)
		fine(t, what, begin(1, 1).fixed('a').copied(length, 1).fixed(256), strings.Repeat("a", length+1))
		fine(t, what, begin(1, 1).fixed('a', 'b', 'c').copied(length, 2).fixed('d', 256), copyOf("abc", length, 2)+"d")
		for _, distance := range []int{3, length - 1, length, length + 1, 300, 400} {
			w := new(writer).stored(0, []byte(text)).head(1, 1).copied(length, distance).fixed(256)
			fine(t, what, w, copyOf(text, length, distance))
		}
	}
	// 284 with all its bits set is 258 too: no error is named for it.
	fine(t, "258 the other way", begin(1, 1).fixed('a', 284).number(31, 5).far(0, 0, 0).fixed(256), strings.Repeat("a", 259))
}

// 8.1: copies of each distance, over a block's border, in one stream.
func TestEachDistance(t *testing.T) {
	text := sample.Bytes(32768, 8)
	w := new(writer).stored(0, text).head(1, 1)
	for distance := 1; distance <= 32768; distance++ {
		w.copied(3, distance)
		for range 3 {
			text = append(text, text[len(text)-distance])
		}
	}
	fine(t, "each distance", w.fixed(256), string(text))
}

// 8.1: a distance that is just what there is, and one beyond it.
func TestDistanceBeyond(t *testing.T) {
	wrong(t, "of nothing", begin(1, 1).copied(3, 1), api.ErrForm)
	for _, n := range []int{1, 2, 3, 4, 5, 6, 7, 8, 9, 12, 13, 16, 17, 64, 65, 255, 256, 257, 1024, 4097, 24576, 24577, 32766, 32767} {
		text := string(sample.Bytes(n, n))
		what := "distance " + strconv.Itoa(n)
		fine(t, what, new(writer).stored(0, []byte(text)).head(1, 1).copied(5, n).fixed(256), copyOf(text, 5, n))
		w := new(writer).stored(0, []byte(text)).head(1, 1).copied(5, n+1)
		wrong(t, what+" and one more", w, api.ErrForm)
		// The distance comes first, and then the bytes that are too many.
		hold(t, what+" and one more, most", w.bytes(), n, "", 0, api.ErrForm)
	}
	w := new(writer).stored(0, sample.Bytes(32767, 1)).stored(0, []byte("x")).head(1, 1).copied(258, 32768).fixed(256)
	fine(t, "the farthest", w, copyOf(string(sample.Bytes(32767, 1))+"x", 258, 32768))
	// What was copied counts as there.
	fine(t, "of a copy", begin(1, 1).fixed('p', 'q').copied(3, 2).copied(4, 5).fixed(256), copyOf(copyOf("pq", 3, 2), 4, 5))
	wrong(t, "beyond a copy", begin(1, 1).fixed('p', 'q').copied(3, 2).copied(4, 6), api.ErrForm)
}

// 8.1: symbols that the fixed codes have and that mean nothing: at once, ahead
// of any bits behind them.
func TestFixedNothing(t *testing.T) {
	for _, symbol := range []int{286, 287} {
		// Literals of nine bits lay the symbol's end at each place of a byte.
		for nines := range 9 {
			w := begin(1, 1)
			for range nines {
				w.fixed(255)
			}
			wrong(t, "symbol "+strconv.Itoa(symbol), w.fixed(symbol), api.ErrForm)
		}
		wrong(t, "first of all", begin(1, 1).fixed(symbol), api.ErrForm)
	}
	for _, symbol := range []int{30, 31} {
		for nines := range 9 {
			w := begin(1, 1)
			for range nines {
				w.fixed(255)
			}
			w.fixed('a', 257).word(spelling(symbol, 5))
			wrong(t, "distance symbol "+strconv.Itoa(symbol), w, api.ErrForm)
		}
	}
	fine(t, "symbol 285", begin(1, 1).fixed('a', 285).far(0, 0, 0).fixed(256), strings.Repeat("a", 259))
	text := string(sample.Bytes(32000, 2))
	fine(t, "distance symbol 29", new(writer).stored(0, []byte(text)).head(1, 1).fixed(257).far(29, 5, 13).fixed(256), copyOf(text, 3, 24582))
}

// 8.1: most, by literals and by copies.
func TestFixedMost(t *testing.T) {
	w := begin(1, 1).fixed('a', 'b').copied(4, 2).fixed('c', 256)
	b := w.bytes()
	for most := -2; most < 7; most++ {
		hold(t, "most "+strconv.Itoa(most), b, most, "", 0, api.ErrBig)
	}
	hold(t, "most 7", b, 7, "abababc", len(b), api.OK)
	hold(t, "most 8", b, 8, "abababc", len(b), api.OK)
	hold(t, "none, most below 0", begin(1, 1).fixed(256).bytes(), -1, "", 2, api.OK)
	// As soon as they are more: nothing behind is looked at.
	hold(t, "a literal too many", begin(1, 1).fixed('a', 'b', 286).bytes(), 1, "", 0, api.ErrBig)
	hold(t, "a literal too many, kind 3 behind", begin(0, 1).fixed('a', 256).head(1, 3).bytes(), 0, "", 0, api.ErrBig)
	hold(t, "a copy too many", begin(1, 1).fixed('a').copied(10, 1).fixed(286).bytes(), 10, "", 0, api.ErrBig)
	hold(t, "a copy just not too many", begin(1, 1).fixed('a').copied(10, 1).fixed(286).bytes(), 11, "", 0, api.ErrForm)
	// Of a copy its distance comes first, all of it.
	hold(t, "no room for a copy, distance symbol 30", begin(1, 1).fixed('a', 257).far(30, 0, 0).bytes(), 1, "", 0, api.ErrForm)
	// Four bits are left behind the length, and a distance has five.
	hold(t, "no room for a copy, no distance", begin(1, 1).fixed(255, 255, 257).bytes(), 2, "", 0, api.ErrShort)
	hold(t, "no room for a copy, and a distance", begin(1, 1).fixed(255, 255).copied(3, 2).bytes(), 2, "", 0, api.ErrBig)
}
