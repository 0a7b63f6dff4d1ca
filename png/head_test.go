package png_test

import (
	"encoding/binary"
	"slices"
	"strconv"
	"testing"

	"versal/api"
)

// headBody answers what IHDR says, byte by byte.
func headBody(w, h uint32, form ...byte) []byte {
	b := binary.BigEndian.AppendUint32(nil, w)
	return append(binary.BigEndian.AppendUint32(b, h), form...)
}

// refused holds an IHDR that is refused, with a file behind it, with an end
// alone, and with nothing.
func refused(t *testing.T, what string, head []byte, code api.Errno) {
	t.Helper()
	fails(t, what, file(head, chunk("PLTE", 1, 2, 3), idat(0, 0), iend()), code)
	fails(t, what+", no IDAT", file(head, iend()), code)
	fails(t, what+", nothing behind", file(head), code)
}

// 11.2: IHDR is the first chunk.
func TestHeadFirst(t *testing.T) {
	head, data, want := gray1()
	is(t, "as it is to be", file(head, data, iend()), want)
	for _, first := range [][]byte{chunk("abcd"), chunk("iHDR"), data, chunk("IDAT"), iend(), chunk("tRNS", 0, 1), chunk("PLTE", 1, 2, 3), chunk("ABCD"), chunk("IHDr", head[8:21]...)} {
		fails(t, "another first", file(first, head, data, iend()), api.ErrForm)
		fails(t, "another alone", file(first), api.ErrForm)
	}
}

// 11.2: IHDR is no other chunk.
func TestHeadOnce(t *testing.T) {
	head, data, _ := gray1()
	for _, again := range [][]byte{head, ihdr(2, 2, 8, 0, 0), chunk("IHDR"), ihdr(0, 0, 0, 0, 0), ihdr(257, 1, 8, 0, 0)} {
		fails(t, "at once", file(head, again, data, iend()), api.ErrForm)
		fails(t, "behind others", file(head, chunk("abcd"), again, data, iend()), api.ErrForm)
		fails(t, "behind IDAT", file(head, data, again, iend()), api.ErrForm)
		fails(t, "between two IDATs", file(head, data, again, data, iend()), api.ErrForm)
	}
}

// 11.2: IHDR has 13 bytes; that is named ahead of its sides.
func TestHeadLength(t *testing.T) {
	for n := range 40 {
		if n == 13 {
			continue
		}
		for _, w := range []uint32{1, 0, 999} {
			body := append(headBody(w, 1, 8, 0, 0, 0, 0), make([]byte, 40)...)
			refused(t, strconv.Itoa(n)+" bytes", chunk("IHDR", body[:n]...), api.ErrForm)
		}
	}
}

// 11.2: a side of 0 is none, ahead of one that is great; that is ErrBig ahead of
// what is wrong behind it.
func TestSides(t *testing.T) {
	great := []uint32{257, 258, 511, 512, 513, 65535, 65536, 65537, 1<<24 + 1, 1<<31 - 1, 1 << 31, 1<<31 + 1, 1<<32 - 1}
	for _, form := range [][]byte{{8, 0, 0, 0, 0}, {99, 0, 0, 0, 0}, {8, 7, 0, 0, 0}, {8, 0, 1, 0, 0}, {8, 0, 0, 1, 0}, {8, 0, 0, 0, 2}} {
		refused(t, "both 0", chunk("IHDR", headBody(0, 0, form...)...), api.ErrForm)
		for _, n := range append([]uint32{1, 256}, great...) {
			refused(t, "width 0", chunk("IHDR", headBody(0, n, form...)...), api.ErrForm)
			refused(t, "height 0", chunk("IHDR", headBody(n, 0, form...)...), api.ErrForm)
		}
		for _, n := range great {
			refused(t, "a great width", chunk("IHDR", headBody(n, 1, form...)...), api.ErrBig)
			refused(t, "a great width", chunk("IHDR", headBody(n, 256, form...)...), api.ErrBig)
			refused(t, "a great height", chunk("IHDR", headBody(1, n, form...)...), api.ErrBig)
			refused(t, "a great height", chunk("IHDR", headBody(256, n, form...)...), api.ErrBig)
			for _, m := range great {
				refused(t, "both great", chunk("IHDR", headBody(n, m, form...)...), api.ErrBig)
			}
		}
	}
}

// 11.2: of all types with all depths those that PNG allows, and no other.
func TestTypesAndDepths(t *testing.T) {
	taken := 0
	for kind := range 256 {
		for depth := range 256 {
			head := ihdr(1, 1, depth, kind, 0)
			if !slices.Contains(forms(), form{kind, depth}) {
				fails(t, "type "+strconv.Itoa(kind)+", depth "+strconv.Itoa(depth), file(head), api.ErrForm)
				continue
			}
			taken++
			fails(t, "taken, nothing behind", file(head), api.ErrShort)
			p := painted(form{kind, depth}, size{1, 1}, 1, 1)
			holdExpected(t, p.named(), p.file(false, p.lines(false, 0, "0"), chunk("PLTE", 1, 2, 3)))
		}
	}
	if taken != 15 {
		t.Errorf("%d are taken", taken)
	}
}

// 11.2: compression and filter are 0, interlace is 0 or 1, each by itself.
func TestMethods(t *testing.T) {
	for x := 1; x < 256; x++ {
		n := byte(x)
		refused(t, "compression", chunk("IHDR", headBody(1, 1, 8, 0, n, 0, 0)...), api.ErrForm)
		refused(t, "filter", chunk("IHDR", headBody(1, 1, 8, 0, 0, n, 0)...), api.ErrForm)
		if x > 1 {
			refused(t, "interlace", chunk("IHDR", headBody(1, 1, 8, 0, 0, 0, n)...), api.ErrForm)
		}
	}
	_, data, want := gray1()
	is(t, "interlace 1", file(ihdr(1, 1, 8, 0, 1), data, iend()), want)
}
