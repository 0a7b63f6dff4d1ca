package sample_test

import (
	"bytes"
	"math"
	"slices"
	"testing"

	"versal/sample"
)

// Numbers lie from 0 to n - 1, come all of them, and are the same ones again.
func TestSource(t *testing.T) {
	for _, n := range []int{1, 2, 3, 7, 256, 1000} {
		seen := make([]int, n)
		pick, again := sample.Source(n), sample.Source(n)
		for range 100 * n {
			k := pick(n)
			if k < 0 || k >= n || again(n) != k {
				t.Fatalf("of %d: %d", n, k)
			}
			seen[k]++
		}
		if slices.Min(seen) < 40 || slices.Max(seen) > 100+100*(2-min(n, 2))+100 {
			t.Errorf("of %d: from %d to %d times", n, slices.Min(seen), slices.Max(seen))
		}
	}
	pick := sample.Source(1)
	if pick(0) != 0 || pick(-1) != 0 || pick(math.MinInt) != 0 {
		t.Error("a number where there is none")
	}
}

// Other seeds are other bytes; the same ones are the same.
func TestBytes(t *testing.T) {
	for seed := range 50 {
		b := sample.Bytes(90, seed)
		if len(b) != 90 || !bytes.Equal(b, sample.Bytes(90, seed)) || !bytes.Equal(b[:40], sample.Bytes(40, seed)) {
			t.Errorf("seed %d: other bytes", seed)
		}
		if bytes.Equal(b, sample.Bytes(90, seed+1)) {
			t.Errorf("seed %d: the same bytes", seed)
		}
	}
	if len(sample.Bytes(0, 1)) != 0 || len(sample.Bytes(-1, 1)) != 0 {
		t.Error("bytes where there are none")
	}
}

// Numbers stand one behind the other, the highest byte first, and only as many
// of their bytes as there is room for.
func TestNumbers(t *testing.T) {
	if b := sample.Words(1, 0x1234, -2, 0x56789); !bytes.Equal(b, []byte{0, 1, 0x12, 0x34, 0xff, 0xfe, 0x67, 0x89}) {
		t.Errorf("words %x", b)
	}
	if b := sample.Longs(1, 0x12345678, -2, 0x56789abcde); !bytes.Equal(b, []byte{0, 0, 0, 1, 0x12, 0x34, 0x56, 0x78, 0xff, 0xff, 0xff, 0xfe, 0x78, 0x9a, 0xbc, 0xde}) {
		t.Errorf("longs %x", b)
	}
	if len(sample.Words()) != 0 || len(sample.Longs()) != 0 {
		t.Error("bytes of no numbers")
	}
}

// Each glyph's bytes are where the entries tell.
func TestGlyphs(t *testing.T) {
	l := sample.Glyphs([]byte{1, 2}, nil, make([]byte, 70000), []byte{3})
	if !bytes.Equal(l["loca"], []byte{0, 0, 0, 0, 0, 0, 0, 2, 0, 0, 0, 2, 0, 1, 0x11, 0x72, 0, 1, 0x11, 0x73}) {
		t.Errorf("loca %x", l["loca"])
	}
	if !bytes.Equal(l["glyf"], slices.Concat([]byte{1, 2}, make([]byte, 70000), []byte{3})) || len(l) != 2 {
		t.Error("glyphs are elsewhere")
	}
	if l := sample.Glyphs(); len(l["glyf"]) != 0 || !bytes.Equal(l["loca"], make([]byte, 4)) {
		t.Errorf("tables of no glyphs: %x", l)
	}
}

// A font has the tables that it is made of, in the order of their tags.
func TestFont(t *testing.T) {
	tables := map[string][]byte{"zzzz": []byte("last"), "abcd": nil, "head": {1, 2, 3}}
	f := sample.Font(tables)
	if !slices.Equal(f.Tags(), []string{"abcd", "head", "zzzz"}) {
		t.Errorf("tags %q", f.Tags())
	}
	for tag, want := range tables {
		if b, ok := f.Table(tag); !ok || !bytes.Equal(b, want) {
			t.Errorf("table %s: %q, %t", tag, b, ok)
		}
	}
	if f := sample.Font(nil); f == nil || len(f.Tags()) != 0 || len(sample.File(nil)) != 12 {
		t.Error("no font of no tables")
	}
	if sample.Font(map[string][]byte{"abc": nil}) != nil || sample.File(map[string][]byte{"abcde": nil}) != nil {
		t.Error("a font of a tag that is none")
	}
}
