package zlib_test

import (
	"bytes"
	"slices"
	"strconv"
	"testing"

	"versal/sample"
	"versal/zlib"
)

// 9.1: what Lay answers, byte by byte.
func TestLayBytes(t *testing.T) {
	for _, none := range [][]byte{nil, {}, make([]byte, 0, 5)} {
		if b := zlib.Lay(none); !bytes.Equal(b, []byte{0x78, 1, 1, 0, 0, 0xff, 0xff, 0, 0, 0, 1}) {
			t.Errorf("9.1: of none: % x", b)
		}
	}
	want := []byte{0x78, 1, 1, 9, 0, 0xf6, 0xff, 'W', 'i', 'k', 'i', 'p', 'e', 'd', 'i', 'a', 0x11, 0xe6, 0x03, 0x98}
	if b := zlib.Lay([]byte("Wikipedia")); !bytes.Equal(b, want) {
		t.Errorf("9.1: of nine: % x", b)
	}
}

// 9.1: its blocks are of 65535 bytes each but the last one.
func TestLayBlocks(t *testing.T) {
	for _, n := range []int{1, 2, 255, 256, 65534, 65535, 65536, 65537, 131069, 131070, 131071, 200000} {
		text := sample.Bytes(n, n)
		want := []byte{0x78, 0x01}
		rest := text
		for len(rest) > 65535 {
			want = append(want, 0, 0xff, 0xff, 0, 0)
			want = append(want, rest[:65535]...)
			rest = rest[65535:]
		}
		size := len(rest)
		want = append(want, 1, byte(size%256), byte(size/256), byte(255-size%256), byte(255-size/256))
		want = slices.Concat(want, rest, adler(text))
		if b := zlib.Lay(text); !bytes.Equal(b, want) {
			t.Errorf("9.1: of %d: %d bytes, not %d, or others", n, len(b), len(want))
		}
	}
}

// 9.1: what was laid is opened again, ours and the library's way.
func TestLayAgain(t *testing.T) {
	for _, n := range []int{0, 1, 2, 3, 100, 65534, 65535, 65536, 65537, 131070, 131071, 300000} {
		text := sample.Bytes(n, n+1)
		b := zlib.Lay(text)
		fine(t, strconv.Itoa(n)+" laid", b, string(text))
		if out, err := library(b); err != nil || !bytes.Equal(out, text) {
			t.Errorf("9.1: of %d the library reads %d, %v", n, len(out), err)
		}
		twice := zlib.Lay(b)
		fine(t, strconv.Itoa(n)+" laid twice", twice, string(b))
	}
	for x := range 256 {
		fine(t, "one byte", zlib.Lay([]byte{byte(x)}), string([]byte{byte(x)}))
	}
}
