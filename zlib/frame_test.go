package zlib_test

import (
	"bytes"
	"encoding/binary"
	"hash/adler32"
	"slices"
	"testing"

	"versal/api"
	"versal/flate"
	"versal/zlib"
)

// adler answers the library's Adler-32 of text, the highest byte first.
func adler(text []byte) []byte {
	return binary.BigEndian.AppendUint32(nil, adler32.Checksum(text))
}

// framed answers a frame about what was deflated, with text's Adler behind it.
func framed(deflated, text []byte) []byte {
	return slices.Concat([]byte{0x78, 0x01}, deflated, adler(text))
}

// hold opens b and holds both results; beside an error there is no answer (R3).
func hold(t *testing.T, what string, b []byte, most int, want string, code api.Errno) {
	t.Helper()
	out, e := zlib.Open(b, most)
	if string(out) != want || e != code {
		t.Errorf("9.1: %s: %d bytes (%.40q), error %d, not %d (%.40q), %d", what, len(out), out, e, len(want), want, code)
	}
	if e != api.OK && out != nil {
		t.Errorf("R3: %s: an answer beside error %d", what, e)
	}
}

// wrong holds a frame that has an error, however much room there is.
func wrong(t *testing.T, what string, b []byte, code api.Errno) {
	t.Helper()
	hold(t, what, b, 1<<20, "", code)
}

// fine holds a frame that is in order, with just as much room as it needs, with
// more, and with less.
func fine(t *testing.T, what string, b []byte, want string) {
	t.Helper()
	hold(t, what, b, len(want), want, api.OK)
	hold(t, what+", more room", b, 1<<40, want, api.OK)
	if len(want) > 0 {
		hold(t, what+", one too many", b, len(want)-1, "", api.ErrBig)
	}
}

// expected is 9.1 said another way: what is behind the head by flate.Inflate,
// as the chapter has it, and the Adler by the library.
func expected(b []byte, most int) (string, api.Errno) {
	if len(b) < 2 {
		return "", api.ErrShort
	}
	if len(refusals(int(b[0]), int(b[1]))) > 0 {
		return "", api.ErrForm
	}
	text, used, e := flate.Inflate(b[2:], most)
	if e != api.OK {
		return "", e
	}
	left := len(b) - 2 - used
	if left < 4 {
		return "", api.ErrShort
	}
	if left > 4 {
		return "", api.ErrForm
	}
	if !bytes.HasSuffix(b, adler(text)) {
		return "", api.ErrMark
	}
	return string(text), api.OK
}

// holdExpected holds what b is expected to be, and answers its error.
func holdExpected(t *testing.T, what string, b []byte, most int) api.Errno {
	t.Helper()
	want, e := expected(b, most)
	hold(t, what, b, most, want, e)
	return e
}
