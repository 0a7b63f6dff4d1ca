package flate_test

import (
	"bytes"
	"math"
	"slices"
	"strconv"
	"testing"

	"versal/api"
	"versal/flate"
	"versal/sample"
)

// 8.1: blocks of kind 0, alone and several.
func TestStoredBlocks(t *testing.T) {
	fine(t, "of none", new(writer).stored(1, nil), "")
	fine(t, "one byte", new(writer).stored(1, []byte("x")), "x")
	fine(t, "three of none", new(writer).stored(0, nil).stored(0, nil).stored(1, nil), "")
	fine(t, "three", new(writer).stored(0, []byte("ab")).stored(0, nil).stored(1, []byte("c")), "abc")
	for _, n := range []int{255, 256, 257, 4096, 65534, 65535} {
		b := sample.Bytes(n, n)
		fine(t, strconv.Itoa(n)+" bytes", new(writer).stored(1, b), string(b))
	}
	hold(t, "what is behind the last one", []byte{1, 1, 0, 0xfe, 0xff, 'a', 1, 1, 0, 0xfe, 0xff, 'b'}, 9, "a", 6, api.OK)
}

// 8.1: the bits up to the next byte are skipped, whatever they are, from each
// place of a byte; a block that begins at a byte's sixth bit leaves none.
func TestStoredSkips(t *testing.T) {
	for skipped := range 32 {
		b := []byte{byte(1 | skipped<<3), 2, 0, 0xfd, 0xff, 'h', 'i', 0xee}
		hold(t, "skipped bits", b, 2, "hi", 7, api.OK)
	}
	for nines := range 8 {
		// Each literal from 144 on has nine bits: the next place of a byte.
		w := begin(0, 1)
		want := ""
		for range nines {
			w.fixed(200)
			want += "\xc8"
		}
		w.fixed(256)
		fine(t, "at another place", w.stored(1, []byte("z")), want+"z")
	}
}

// 8.1: the length's complement has to fit in each of its bits.
func TestStoredComplement(t *testing.T) {
	for _, size := range []int{0, 1, 2, 255, 256, 0x5a5a, 65535} {
		for bit := range 16 {
			w := begin(1, 0).align().number(size, 16).number(^size^1<<bit, 16)
			wrong(t, "bit "+strconv.Itoa(bit)+" of the complement", w, api.ErrForm)
			w = begin(1, 0).align().number(size^1<<bit, 16).number(^size, 16)
			wrong(t, "bit "+strconv.Itoa(bit)+" of the length", w, api.ErrForm)
		}
		wrong(t, "the length again", begin(1, 0).align().number(size, 16).number(size, 16), api.ErrForm)
		hold(t, "ahead of what is too big", begin(1, 0).align().number(size, 16).number(size, 16).bytes(), 0, "", 0, api.ErrForm)
	}
	// The complement is there or it isn't: half of one that can't fit is short.
	hold(t, "half a complement", []byte{1, 1, 0, 0xff}, 9, "", 0, api.ErrShort)
}

// 8.1: most, with bytes as they are: each byte comes first, and is then one
// too many.
func TestStoredMost(t *testing.T) {
	b := new(writer).stored(0, []byte("ab")).stored(1, []byte("cde")).bytes()
	for _, most := range []int{0, 1, 2, 3, 4, -1, -5, math.MinInt, math.MinInt + 1} {
		hold(t, "most "+strconv.Itoa(most), b, most, "", 0, api.ErrBig)
	}
	for _, most := range []int{5, 6, 1 << 31, math.MaxInt} {
		hold(t, "most "+strconv.Itoa(most), b, most, "abcde", len(b), api.OK)
	}
	none := new(writer).stored(0, nil).stored(1, nil).bytes()
	for _, most := range []int{math.MinInt, -1, 0, 1, math.MaxInt} {
		hold(t, "none, most "+strconv.Itoa(most), none, most, "", len(none), api.OK)
	}
	// Cut off at each place, with each most: whichever comes first.
	for n := range b {
		there := 0 // bytes of the text among the first n of b
		for k := range n {
			if k == 5 || k == 6 || k >= 12 {
				there++
			}
		}
		for most := range 6 {
			want := api.ErrShort
			if there > most {
				want = api.ErrBig
			}
			hold(t, "cut off at "+strconv.Itoa(n)+", most "+strconv.Itoa(most), b[:n], most, "", 0, want)
		}
	}
}

// 8.2: what Stored answers, byte by byte.
func TestStoredBytes(t *testing.T) {
	for _, none := range [][]byte{nil, {}, make([]byte, 0, 5)} {
		if b := flate.Stored(none); !bytes.Equal(b, []byte{1, 0, 0, 0xff, 0xff}) {
			t.Errorf("8.2: of none: % x", b)
		}
	}
	if b := flate.Stored([]byte("ab")); !bytes.Equal(b, []byte{1, 2, 0, 0xfd, 0xff, 'a', 'b'}) {
		t.Errorf("8.2: of two: % x", b)
	}
	for _, n := range []int{1, 255, 256, 258, 65534, 65535, 65536, 65537, 131069, 131070, 131071, 196605, 200000} {
		text := sample.Bytes(n, n)
		var want []byte
		for at := 0; ; at += 65535 {
			size := n - at
			if size <= 65535 {
				want = append(want, 1, byte(size%256), byte(size/256), byte(255-size%256), byte(255-size/256))
				want = append(want, text[at:]...)
				break
			}
			want = append(want, 0, 0xff, 0xff, 0, 0)
			want = append(want, text[at:at+65535]...)
		}
		if b := flate.Stored(text); !bytes.Equal(b, want) {
			t.Errorf("8.2: of %d: %d bytes, not %d", n, len(b), len(want))
		}
	}
}

// 8.2, 8.1: what was stored comes back, ours and the library's way.
func TestStoredAgain(t *testing.T) {
	for _, n := range []int{0, 1, 2, 1000, 65534, 65535, 65536, 65537, 131070, 131071, 300000} {
		text := sample.Bytes(n, n+1)
		b := flate.Stored(text)
		hold(t, strconv.Itoa(n)+" stored", b, n, string(text), len(b), api.OK)
		hold(t, strconv.Itoa(n)+" stored, bytes behind", append(slices.Clone(b), 5, 6, 7), n, string(text), len(b), api.OK)
		if n > 0 {
			hold(t, strconv.Itoa(n)+" stored, one too many", b, n-1, "", 0, api.ErrBig)
		}
		if out, err := library(b); err != nil || !bytes.Equal(out, text) {
			t.Errorf("8.2: of %d the library reads %d, %v", n, len(out), err)
		}
	}
}
