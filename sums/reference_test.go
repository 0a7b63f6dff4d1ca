package sums_test

import (
	"testing"

	"versal/sums"
)

// wantAdler goes by RFC 1950's words: a remainder at each byte.
func wantAdler(b []byte) int {
	low, high := 1, 0
	for _, x := range b {
		low = (low + int(x)) % 65521
		high = (high + low) % 65521
	}
	return 65536*high + low
}

// wantCrc divides bit by bit, without a table.
func wantCrc(b []byte) int {
	c := 1<<32 - 1
	for _, x := range b {
		for k := range 8 {
			out := c&1 ^ int(x)>>k&1
			c = c>>1 ^ out*0xedb88320
		}
	}
	return 1<<32 - 1 - c
}

func hold(t *testing.T, b []byte) {
	t.Helper()
	if got, want := sums.Adler(b), wantAdler(b); got != want {
		t.Fatalf("6.1: Adler of %d bytes: %08x, not %08x", len(b), got, want)
	}
	if got, want := sums.Crc(b), wantCrc(b); got != want {
		t.Fatalf("6.1: Crc of %d bytes: %08x, not %08x", len(b), got, want)
	}
}
