package flate_test

import (
	"slices"
	"strings"
	"testing"

	"versal/api"
	"versal/flate"
)

// writer is bits in the order in which they come, as a text of 0 and 1.
type writer struct {
	text []byte
}

// number adds so many bits of n, the lowest first.
func (w *writer) number(n, size int) *writer {
	for range size {
		w.text = append(w.text, byte('0'+n&1))
		n >>= 1
	}
	return w
}

// word adds bits as they are spelt.
func (w *writer) word(s string) *writer {
	w.text = append(w.text, s...)
	return w
}

// fixed adds symbols by the fixed code of literals and lengths.
func (w *writer) fixed(symbols ...int) *writer {
	for _, k := range symbols {
		w.word(fixedWord(k))
	}
	return w
}

// far adds a symbol by the fixed code of distances, and what is behind it.
func (w *writer) far(symbol, more, size int) *writer {
	return w.word(spelling(symbol, 5)).number(more, size)
}

// stored adds a block of bytes as they are.
func (w *writer) stored(last int, b []byte) *writer {
	w.head(last, 0).align().number(len(b), 16).number(^len(b), 16)
	for _, x := range b {
		w.number(int(x), 8)
	}
	return w
}

// align fills a byte that was begun with zeros.
func (w *writer) align() *writer {
	for len(w.text)%8 != 0 {
		w.text = append(w.text, '0')
	}
	return w
}

// head adds the three bits that each block begins with.
func (w *writer) head(last, kind int) *writer { return w.number(last, 1).number(kind, 2) }

// counts adds the fourteen bits of a block of kind 2: how many literals,
// distances and lengths of the lengths' codes there are.
func (w *writer) counts(literals, distances, short int) *writer {
	return w.number(literals-257, 5).number(distances-1, 5).number(short-4, 4)
}

// short adds lengths of the lengths' codes, in the order in which they come.
func (w *writer) short(lengths ...int) *writer {
	for _, n := range lengths {
		w.number(n, 3)
	}
	return w
}

// bytes answers the bits as bytes, the last one filled up with zeros.
func (w *writer) bytes() []byte { return laid(string(w.text)) }

// begin is a stream that begins with a block's head.
func begin(last, kind int) *writer { return new(writer).head(last, kind) }

// laid answers bits as bytes.
func laid(s string) []byte {
	b := make([]byte, (len(s)+7)/8)
	for k := range len(s) {
		if s[k] == '1' {
			b[k/8] += 1 << (k % 8)
		}
	}
	return b
}

// spelling answers length bits of code, the highest first.
func spelling(code, length int) string {
	s := make([]byte, length)
	for k := range s {
		s[length-1-k] = byte('0' + code>>k&1)
	}
	return string(s)
}

// fixedWord is a symbol's code, as RFC 1951's table of them tells it.
func fixedWord(symbol int) string {
	switch {
	case symbol < 144:
		return spelling(0b00110000+symbol, 8)
	case symbol < 256:
		return spelling(0b110010000+symbol-144, 9)
	case symbol < 280:
		return spelling(symbol-256, 7)
	}
	return spelling(0b11000000+symbol-280, 8)
}

// words answers the symbols' canonical codes as texts: all in the order of
// their lengths and then of their symbols, each the next one behind the code
// ahead of it, with zeros added if it is longer.
func words(lengths []int) []string {
	var order []int
	for symbol, n := range lengths {
		if n > 0 {
			order = append(order, symbol)
		}
	}
	slices.SortStableFunc(order, func(a, b int) int { return lengths[a] - lengths[b] })
	all := make([]string, len(lengths))
	last := ""
	for k, symbol := range order {
		if k > 0 {
			zero := strings.LastIndexByte(last, '0')
			last = last[:zero] + "1" + strings.Repeat("0", len(last)-zero-1)
		}
		last += strings.Repeat("0", lengths[symbol]-len(last))
		all[symbol] = last
	}
	return all
}

// hold inflates b and holds all three results; beside an error the others are
// their zero values (R3).
func hold(t *testing.T, what string, b []byte, most int, want string, used int, code api.Errno) {
	t.Helper()
	out, n, e := flate.Inflate(b, most)
	if string(out) != want || n != used || e != code {
		t.Errorf("8.1: %s: %d bytes (%.40q), %d used, error %d, not %d (%.40q), %d, %d",
			what, len(out), out, n, e, len(want), want, used, code)
	}
	if e != api.OK && out != nil {
		t.Errorf("R3: %s: an answer beside error %d", what, e)
	}
}

// fine holds a stream that is in order: what it says, that all of its bytes
// were begun, and that those behind it are left.
func fine(t *testing.T, what string, w *writer, want string) {
	t.Helper()
	b := w.bytes()
	hold(t, what, b, len(want), want, len(b), api.OK)
	hold(t, what+", more room", b, 1<<40, want, len(b), api.OK)
	behind := append(slices.Clone(b), 0xff, 0x07, 0)
	hold(t, what+", bytes behind", behind, len(want), want, len(b), api.OK)
	if len(want) > 0 {
		hold(t, what+", one too many", b, len(want)-1, "", 0, api.ErrBig)
	}
}

// wrong holds a stream that has an error, however much room there is and
// whatever comes behind it.
func wrong(t *testing.T, what string, w *writer, code api.Errno) {
	t.Helper()
	b := w.bytes()
	hold(t, what, b, 1<<20, "", 0, code)
	if code != api.ErrShort {
		hold(t, what+", ones behind", append(slices.Clone(b), 0xff, 0xff, 0xff, 0xff), 1<<20, "", 0, code)
		hold(t, what+", zeros behind", append(slices.Clone(b), 0, 0, 0, 0), 1<<20, "", 0, code)
	}
}
