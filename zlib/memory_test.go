package zlib_test

import (
	"bytes"
	"slices"
	"testing"

	"versal/api"
	"versal/sample"
	"versal/zlib"
)

// frameOfEachEnd answers a frame for each way in which Open ends, all opened
// with room for three bytes.
func frameOfEachEnd() map[api.Errno][][]byte {
	abc := framed([]byte{0x4b, 0x4c, 0x4a, 0x06, 0x00}, []byte("abc"))
	turned := slices.Clone(abc)
	turned[len(turned)-1]++
	return map[api.Errno][][]byte{
		api.OK:       {abc, zlib.Lay(nil), zlib.Lay([]byte("xyz"))},
		api.ErrForm:  {append(slices.Clone(abc), 0), {0x78, 0x02, 3, 0, 0, 0, 0, 1}, {0x78, 0x01, 7, 0}},
		api.ErrShort: {nil, {0x78}, abc[:5], abc[:len(abc)-1]},
		api.ErrBig:   {zlib.Lay([]byte("four")), zlib.Lay(sample.Bytes(70000, 1))},
		api.ErrMark:  {turned},
	}
}

// R2: what is handed in is as it was, its spare room and what lies ahead of it
// included, whatever the answer.
func TestUnchanged(t *testing.T) {
	check := func(what string, b []byte, call func(b []byte)) {
		t.Helper()
		room := slices.Concat(sample.Bytes(9, 1), b, sample.Bytes(70, 2))
		was := slices.Clone(room)
		call(room[9 : 9+len(b)])
		if !bytes.Equal(room, was) {
			t.Errorf("R2: %s changed what was handed in", what)
		}
		call(room[9 : 9+len(b) : 9+len(b)])
		if !bytes.Equal(room, was) {
			t.Errorf("R2: %s changed what lies behind", what)
		}
	}
	for code, frames := range frameOfEachEnd() {
		for _, b := range frames {
			check("Open", b, func(b []byte) {
				if _, e := zlib.Open(b, 3); e != code {
					t.Errorf("9.1: error %d, not %d", e, code)
				}
			})
		}
	}
	for _, n := range []int{0, 1, 100, 65535, 65536, 140000} {
		check("Lay", sample.Bytes(n, n), func(b []byte) { zlib.Lay(b) })
	}
	for level, text := range samples() {
		b := deflated(t, level, text)
		check("Open", b, func(b []byte) { zlib.Open(b, len(text)) })
	}
}

// spoil turns each byte of an answer and of its spare room.
func spoil(b []byte) {
	b = b[:cap(b)]
	for k := range b {
		b[k] ^= 0xff
	}
}

// R2, R4: an answer is new memory: it may be changed, and neither what was
// handed in nor another answer notices; and what was handed in may be changed.
func TestNewMemory(t *testing.T) {
	for level, text := range samples() {
		for _, b := range [][]byte{deflated(t, level, text), zlib.Lay(text)} {
			was := slices.Clone(b)
			one, _ := zlib.Open(b, len(text))
			other, e := zlib.Open(b, len(text))
			spoil(one)
			if !bytes.Equal(other, text) || e != api.OK || !bytes.Equal(b, was) {
				t.Errorf("R2: an answer of Open shares memory")
			}
			spoil(b)
			if !bytes.Equal(other, text) {
				t.Errorf("R2: Open keeps what was handed in")
			}
		}
	}
	for _, n := range []int{0, 1, 100, 65535, 65536, 140000} {
		text := sample.Bytes(n, n)
		was := slices.Clone(text)
		one, other := zlib.Lay(text), zlib.Lay(text)
		keep := slices.Clone(other)
		spoil(one)
		if !bytes.Equal(other, keep) || !bytes.Equal(text, was) || !bytes.Equal(zlib.Lay(text), keep) {
			t.Errorf("R2: an answer of Lay shares memory")
		}
		spoil(text)
		if !bytes.Equal(other, keep) {
			t.Errorf("R2: Lay keeps what was handed in")
		}
	}
}

// R4: a call knows nothing of those ahead of it.
func TestApart(t *testing.T) {
	b := zlib.Lay([]byte("xyz"))
	for code, frames := range frameOfEachEnd() {
		for _, other := range frames {
			hold(t, "ahead of others", b, 3, "xyz", api.OK)
			if _, e := zlib.Open(other, 3); e != code {
				t.Errorf("9.1: error %d, not %d", e, code)
			}
			hold(t, "behind others", b, 3, "xyz", api.OK)
		}
	}
	if !bytes.Equal(zlib.Lay([]byte("xyz")), b) {
		t.Error("R4: Lay answers otherwise")
	}
}
