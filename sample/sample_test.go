package sample_test

import (
	"bytes"
	"math"
	"slices"
	"testing"

	"versal/sample"
)

// Numbers lie from 0 to n - 1, come all of them, and are the same ones again.
func TestSource(t *testing.T) {
	for _, n := range []int{1, 2, 3, 7, 256, 1000} {
		seen := make([]int, n)
		pick, again := sample.Source(n), sample.Source(n)
		for range 100 * n {
			k := pick(n)
			if k < 0 || k >= n || again(n) != k {
				t.Fatalf("of %d: %d", n, k)
			}
			seen[k]++
		}
		if slices.Min(seen) < 40 || slices.Max(seen) > 100+100*(2-min(n, 2))+100 {
			t.Errorf("of %d: from %d to %d times", n, slices.Min(seen), slices.Max(seen))
		}
	}
	pick := sample.Source(1)
	if pick(0) != 0 || pick(-1) != 0 || pick(math.MinInt) != 0 {
		t.Error("a number where there is none")
	}
}

// Other seeds are other bytes; the same ones are the same.
func TestBytes(t *testing.T) {
	for seed := range 50 {
		b := sample.Bytes(90, seed)
		if len(b) != 90 || !bytes.Equal(b, sample.Bytes(90, seed)) || !bytes.Equal(b[:40], sample.Bytes(40, seed)) {
			t.Errorf("seed %d: other bytes", seed)
		}
		if bytes.Equal(b, sample.Bytes(90, seed+1)) {
			t.Errorf("seed %d: the same bytes", seed)
		}
	}
	if len(sample.Bytes(0, 1)) != 0 || len(sample.Bytes(-1, 1)) != 0 {
		t.Error("bytes where there are none")
	}
}

// A font has the tables that it is made of, in the order of their tags.
func TestFont(t *testing.T) {
	tables := map[string][]byte{"zzzz": []byte("last"), "abcd": nil, "head": {1, 2, 3}}
	f := sample.Font(tables)
	if !slices.Equal(f.Tags(), []string{"abcd", "head", "zzzz"}) {
		t.Errorf("tags %q", f.Tags())
	}
	for tag, want := range tables {
		if b, ok := f.Table(tag); !ok || !bytes.Equal(b, want) {
			t.Errorf("table %s: %q, %t", tag, b, ok)
		}
	}
	if f := sample.Font(nil); f == nil || len(f.Tags()) != 0 || len(sample.File(nil)) != 12 {
		t.Error("no font of no tables")
	}
	if sample.Font(map[string][]byte{"abc": nil}) != nil || sample.File(map[string][]byte{"abcde": nil}) != nil {
		t.Error("a font of a tag that is none")
	}
}
