package flate_test

import (
	"bytes"
	"compress/flate"
	"io"
	"strconv"
	"strings"
	"testing"

	"versal/api"
	"versal/sample"
)

// library answers what the standard library inflates.
func library(b []byte) ([]byte, error) {
	out, _, err := libraryUsed(b)
	return out, err
}

// libraryUsed answers how many bytes it took for it too. It takes no byte that
// it does not begin, of a reader that answers single ones.
func libraryUsed(b []byte) ([]byte, int, error) {
	r := bytes.NewReader(b)
	out, err := io.ReadAll(flate.NewReader(r))
	return out, len(b) - r.Len(), err
}

// deflated answers text as the standard library deflates it, flushed behind
// each piece.
func deflated(t *testing.T, level int, pieces ...[]byte) []byte {
	t.Helper()
	var out bytes.Buffer
	w, err := flate.NewWriter(&out, level)
	if err != nil {
		t.Fatal(err)
	}
	for k, p := range pieces {
		w.Write(p)
		if k < len(pieces)-1 {
			w.Flush()
		}
	}
	w.Close()
	return out.Bytes()
}

// samples answers texts of many kinds.
func samples() [][]byte {
	pick := sample.Source(77)
	var few, phrases []byte
	for range 9000 {
		few = append(few, byte('a'+min(pick(26), pick(26), pick(26))))
	}
	stock := []string{"a letter ", "in colour ", "of many ", "layers; ", "and ", "one upon ", "another ", "\x00\xff"}
	for len(phrases) < 120000 {
		phrases = append(phrases, stock[pick(len(stock))]...)
	}
	ramp := make([]byte, 40000)
	for k := range ramp {
		ramp[k] = byte(k / 7)
	}
	far := sample.Bytes(33000, 6)
	return [][]byte{
		nil, []byte("a"), []byte("abc"), []byte(strings.Repeat("a", 1000)), make([]byte, 100000),
		few, phrases, ramp, sample.Bytes(70000, 4), append(far, far...), []byte(strings.Repeat("abcdefgh", 9000)),
	}
}

// 8.1: what the standard library deflated, at each level, in one piece and in
// several.
func TestLibraryLevels(t *testing.T) {
	kinds := make(map[int]int)
	for level := -2; level <= 9; level++ {
		for k, text := range samples() {
			what := "sample " + strconv.Itoa(k) + " at " + strconv.Itoa(level)
			b := deflated(t, level, text)
			kinds[int(b[0]>>1&3)]++
			hold(t, what, b, len(text), string(text), len(b), api.OK)
			hold(t, what+", bytes behind", append(b[:len(b):len(b)], 1, 2, 3), len(text)+1, string(text), len(b), api.OK)
			if len(text) > 0 {
				hold(t, what+", one too many", b, len(text)-1, "", 0, api.ErrBig)
			}
			third := len(text) / 3
			b = deflated(t, level, text[:third], nil, text[third:2*third], text[2*third:])
			hold(t, what+", in pieces", b, len(text), string(text), len(b), api.OK)
		}
	}
	if kinds[0] == 0 || kinds[1] == 0 || kinds[2] == 0 {
		t.Errorf("blocks of each kind: %v", kinds)
	}
}

// 8.1: what was deflated, cut off at each place, is short.
func TestLibraryCutOff(t *testing.T) {
	for k, text := range samples() {
		text = text[:min(len(text), 700)]
		for _, level := range []int{-2, 0, 1, 9} {
			b := deflated(t, level, text[:len(text)/2], text[len(text)/2:])
			for n := range b {
				hold(t, "sample "+strconv.Itoa(k)+" cut off at "+strconv.Itoa(n), b[:n], 1<<20, "", 0, api.ErrShort)
			}
		}
	}
}
