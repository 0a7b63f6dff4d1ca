package pixel_test

import (
	"math"
	"testing"

	"versal/pixel"
)

// 12.1: Part of every pair of numbers 0 to 255: what is looked for, and the whole
// number next to the quotient: it lies within 127 of 255ths each way.
func TestPartOfEveryPair(t *testing.T) {
	for a := range 256 {
		for b := range 256 {
			got := pixel.Part(a, b)
			if got != wantPart(a, b) {
				t.Fatalf("12.1: Part(%d, %d) is %d, want %d", a, b, got, wantPart(a, b))
			}
			if off := a*b - got*255; off < -127 || off > 127 {
				t.Errorf("12.1: Part(%d, %d) is %d, which is not the next", a, b, got)
			}
			if got != pixel.Part(b, a) || got > a || got > b {
				t.Errorf("12.1: Part(%d, %d) is %d", a, b, got)
			}
		}
	}
}

// 12.1: Part, as it is written out: all, nothing, about the halves.
func TestPart(t *testing.T) {
	for _, c := range []struct{ a, b, want int }{
		{0, 0, 0}, {0, 255, 0}, {255, 0, 0}, {255, 255, 255}, {255, 1, 1}, {1, 255, 1}, {255, 128, 128}, {100, 128, 50},
		// 127 of 255 is below the half, 128 above it.
		{1, 127, 0}, {1, 128, 1}, {127, 1, 0}, {128, 1, 1}, {3, 127, 1}, {3, 128, 2},
		// 382 of 255 is below one and a half, 384 above it.
		{2, 191, 1}, {2, 192, 2}, {254, 254, 253}, {254, 255, 254}, {127, 128, 64}, {16, 16, 1}, {11, 11, 0}, {12, 11, 1},
	} {
		if got := pixel.Part(c.a, c.b); got != c.want {
			t.Errorf("12.1: Part(%d, %d) is %d, want %d", c.a, c.b, got, c.want)
		}
	}
}

// 12.1: each number of Part is brought within 0 to 255, by itself.
func TestPartBeyond(t *testing.T) {
	for _, n := range beyond() {
		end := brought(n, 0, 255)
		for b := range 256 {
			if got, want := pixel.Part(n, b), wantPart(end, b); got != want {
				t.Errorf("12.1: Part(%d, %d) is %d, want %d", n, b, got, want)
			}
			if got, want := pixel.Part(b, n), wantPart(b, end); got != want {
				t.Errorf("12.1: Part(%d, %d) is %d, want %d", b, n, got, want)
			}
		}
		for _, m := range beyond() {
			if got, want := pixel.Part(n, m), wantPart(n, m); got != want {
				t.Errorf("12.1: Part(%d, %d) is %d, want %d", n, m, got, want)
			}
		}
	}
	for _, c := range []struct{ a, b, want int }{
		{-1, 255, 0}, {255, -1, 0}, {-1, -1, 0}, {-300, -300, 0}, {256, 255, 255}, {256, 256, 255}, {300, 128, 128}, {-5, 200, 0},
		{math.MinInt, 255, 0}, {255, math.MinInt, 0}, {math.MaxInt, 7, 7}, {7, math.MaxInt, 7},
		{math.MaxInt, math.MaxInt, 255}, {math.MinInt, math.MinInt, 0}, {math.MinInt, math.MaxInt, 0}, {1 << 62, 128, 128},
	} {
		if got := pixel.Part(c.a, c.b); got != c.want {
			t.Errorf("12.1: Part(%d, %d) is %d, want %d", c.a, c.b, got, c.want)
		}
	}
}
