package fixed_test

import (
	"testing"

	"versal/fixed"
)

// 3.1, R1: each call of one number, over the edges and numbers of all lengths.
func TestOneNumberAsReckoned(t *testing.T) {
	for _, c := range []struct {
		name string
		call func(int) int
		want func(int) int
	}{
		{"Clip", fixed.Clip, wantClip},
		{"Round", fixed.Round, wantRound},
		{"Whole", fixed.Whole, wantWhole},
		{"From14", fixed.From14, wantFrom14},
	} {
		for _, n := range append(seeds(), spread(5000)...) {
			if got, want := c.call(n), c.want(n); got != want {
				t.Fatalf("%s(%d) is %d, want %d", c.name, n, got, want)
			}
		}
	}
}

// 3.1, R1: each call of two numbers, each edge beside each.
func TestTwoNumbersAsReckoned(t *testing.T) {
	for _, c := range []struct {
		name string
		call func(a, b int) int
		want func(a, b int) int
	}{
		{"Mul", fixed.Mul, wantMul},
		{"Div", fixed.Div, wantDiv},
		{"Ratio", fixed.Ratio, wantRatio},
	} {
		list := append(seeds(), spread(80)...)
		for _, a := range list {
			for _, b := range list {
				if got, want := c.call(a, b), c.want(a, b); got != want {
					t.Fatalf("%s(%d, %d) is %d, want %d", c.name, a, b, got, want)
				}
			}
		}
	}
}

// 3.1, R1: Lerp, each edge beside each two others.
func TestLerpAsReckoned(t *testing.T) {
	list := append(seeds(), spread(5)...)
	for _, a := range list {
		for _, b := range list {
			for _, at := range list {
				if got, want := fixed.Lerp(a, b, at), wantLerp(a, b, at); got != want {
					t.Fatalf("Lerp(%d, %d, %d) is %d, want %d", a, b, at, got, want)
				}
			}
		}
	}
}

// 3.1, R1: Root, over the edges and numbers of all lengths.
func TestRootAsReckoned(t *testing.T) {
	for _, n := range append(seeds(), spread(5000)...) {
		got := fixed.Root(n)
		if n < 0 && got != 0 {
			t.Fatalf("Root(%d) is %d, want 0", n, got)
		}
		if n >= 0 && !isRoot(got, n) {
			t.Fatalf("Root(%d) is %d", n, got)
		}
	}
}
