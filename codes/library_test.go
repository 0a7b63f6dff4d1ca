package codes_test

import (
	"bytes"
	"compress/flate"
	"testing"

	"versal/codes"
	"versal/sample"
)

// literals answers the text of a deflated block of literals alone, from its
// three bits on: RFC 1951 as far as the codes go.
func literals(t *testing.T, b []byte) (string, *codes.Bits) {
	t.Helper()
	r := codes.NewBits(b)
	r.Take(1)
	kind, _ := r.Take(2)
	c := made(t, fixed())
	if kind == 2 {
		c = told(t, r)
	} else if kind != 1 {
		t.Fatalf("a block of kind %d", kind)
	}
	var out []byte
	for {
		symbol, ok := c.Read(r)
		if !ok || symbol > 256 {
			t.Fatalf("7.2: behind %d bytes: %d, %t", len(out), symbol, ok)
		}
		if symbol == 256 {
			return string(out), r
		}
		out = append(out, byte(symbol))
	}
}

// told answers the code of literals that a block of kind 2 tells ahead of it.
func told(t *testing.T, r *codes.Bits) *codes.Code {
	t.Helper()
	literal, _ := r.Take(5)
	distance, _ := r.Take(5)
	count, _ := r.Take(4)
	order := [19]int{16, 17, 18, 0, 8, 7, 9, 6, 10, 5, 11, 4, 12, 3, 13, 2, 14, 1, 15}
	var short [19]int
	for _, k := range order[:count+4] {
		short[k], _ = r.Take(3)
	}
	c := made(t, short[:])
	var lengths []int
	for len(lengths) < literal+257+distance+1 {
		symbol, ok := c.Read(r)
		if !ok {
			t.Fatalf("7.2: behind %d lengths", len(lengths))
		}
		n, times := symbol, 1
		switch symbol {
		case 16:
			n = lengths[len(lengths)-1]
			times, _ = r.Take(2)
			times += 3
		case 17:
			n = 0
			times, _ = r.Take(3)
			times += 3
		case 18:
			n = 0
			times, _ = r.Take(7)
			times += 11
		}
		for range times {
			lengths = append(lengths, n)
		}
	}
	made(t, lengths[literal+257:])
	return made(t, lengths[:literal+257])
}

// 7.1, 7.2: bytes of the fixed code that other programs have made.
func TestFixedBytes(t *testing.T) {
	for _, x := range []struct {
		b    []byte
		text string
	}{
		{[]byte{0x03, 0x00}, ""},
		{[]byte{0x4b, 0x04, 0x00}, "a"},
		{[]byte{0x4b, 0x4c, 0x4a, 0x06, 0x00}, "abc"},
		{[]byte{0xfb, 0xff, 0x1f, 0x00}, "\xff\xff"},
	} {
		got, r := literals(t, x.b)
		if got != x.text || r.Used() != len(x.b) {
			t.Errorf("% x: %q, used %d", x.b, got, r.Used())
		}
	}
}

// 7.1, 7.2: what the library deflates without copies is read by its codes.
func TestLibraryBlocks(t *testing.T) {
	read := 0
	for seed := range 60 {
		pick := sample.Source(seed)
		spread := 2 + pick(254)
		text := make([]byte, 1000+pick(3000))
		for k := range text {
			// The smaller of three numbers comes oftener, so that lengths differ.
			text[k] = byte(min(pick(spread), pick(spread), pick(spread)))
		}
		var out bytes.Buffer
		w, err := flate.NewWriter(&out, flate.HuffmanOnly)
		if err != nil {
			t.Fatal(err)
		}
		w.Write(text)
		w.Close()
		b := out.Bytes()
		if b[0]>>1&3 == 0 {
			continue // it was stored, as it would not have become shorter
		}
		if got, _ := literals(t, b); got != string(text) {
			t.Fatalf("%d: %d bytes of %d", seed, len(got), len(text))
		}
		read++
	}
	if read < 40 {
		t.Errorf("%d blocks were read", read)
	}
}
