package zlib_test

import (
	"bytes"
	"compress/zlib"
	"io"
	"strconv"
	"strings"
	"testing"

	"versal/api"
	"versal/sample"
)

// library answers what the standard library finds in a frame.
func library(b []byte) ([]byte, error) {
	r, err := zlib.NewReader(bytes.NewReader(b))
	if err != nil {
		return nil, err
	}
	return io.ReadAll(r)
}

// deflated answers a frame that the standard library writes about a text,
// flushed behind each piece of it.
func deflated(t *testing.T, level int, pieces ...[]byte) []byte {
	t.Helper()
	var out bytes.Buffer
	w, err := zlib.NewWriterLevel(&out, level)
	if err != nil {
		t.Fatal(err)
	}
	for k, p := range pieces {
		w.Write(p)
		if k < len(pieces)-1 {
			w.Flush()
		}
	}
	w.Close()
	return out.Bytes()
}

// samples answers texts of many kinds.
func samples() [][]byte {
	pick := sample.Source(41)
	var few []byte
	for range 9000 {
		few = append(few, byte('a'+min(pick(26), pick(26), pick(26))))
	}
	far := sample.Bytes(33000, 6)
	return [][]byte{
		nil, []byte("a"), []byte("abc"), []byte(strings.Repeat("a", 1000)), make([]byte, 100000), few,
		sample.Bytes(70000, 4), append(far, far...), []byte(strings.Repeat("abcdefgh", 9000)),
	}
}

// 9.1: what the standard library framed, at each level, in one piece and in
// several.
func TestLibraryLevels(t *testing.T) {
	heads := make(map[byte]int)
	for level := -2; level <= 9; level++ {
		for k, text := range samples() {
			what := "sample " + strconv.Itoa(k) + " at " + strconv.Itoa(level)
			b := deflated(t, level, text)
			heads[b[1]]++
			fine(t, what, b, string(text))
			wrong(t, what+", one byte less", b[:len(b)-1], api.ErrShort)
			wrong(t, what+", one byte more", append(b[:len(b):len(b)], 0), api.ErrForm)
			third := len(text) / 3
			b = deflated(t, level, text[:third], nil, text[third:2*third], text[2*third:])
			fine(t, what+", in pieces", b, string(text))
		}
	}
	if len(heads) < 4 {
		t.Errorf("heads of each level: %v", heads)
	}
}

// 9.1: the same cut off at each place.
func TestLibraryCutOff(t *testing.T) {
	for k, text := range samples() {
		text = text[:min(len(text), 500)]
		for _, level := range []int{-2, 0, 1, 9} {
			b := deflated(t, level, text[:len(text)/2], text[len(text)/2:])
			for n := range b {
				wrong(t, "sample "+strconv.Itoa(k)+" cut off at "+strconv.Itoa(n), b[:n], api.ErrShort)
			}
		}
	}
}

// 9.1: frames with a dictionary, as the library writes them.
func TestLibraryDictionary(t *testing.T) {
	for level := -1; level <= 9; level++ {
		var out bytes.Buffer
		w, err := zlib.NewWriterLevelDict(&out, level, []byte("letters in colour"))
		if err != nil {
			t.Fatal(err)
		}
		w.Write([]byte("letters, letters in colour"))
		w.Close()
		wrong(t, "a dictionary at "+strconv.Itoa(level), out.Bytes(), api.ErrForm)
	}
}
