package angle_test

import (
	"testing"

	"versal/angle"
)

// 4.1, R1: each call of one angle: every angle from a turn below 0 to two
// turns, the edges, and numbers of all lengths.
func TestAnglesAsReckoned(t *testing.T) {
	list := append(seeds(), spread(5000)...)
	for a := -65536; a <= 2*65536; a++ {
		list = append(list, a)
	}
	for _, c := range []struct {
		name string
		call func(int) int
		want func(int) int
	}{
		{"Norm", angle.Norm, wantNorm},
		{"Sin", angle.Sin, wantSin},
		{"Cos", angle.Cos, wantCos},
		{"Tan", angle.Tan, wantTan},
	} {
		for _, a := range list {
			if got, want := c.call(a), c.want(a); got != want {
				t.Fatalf("%s(%d) is %d, want %d", c.name, a, got, want)
			}
		}
	}
}

// 4.2, R1: Atan: each edge beside each, and numbers of all lengths.
func TestAtanAsReckoned(t *testing.T) {
	list := append(seeds(), spread(250)...)
	for _, y := range list {
		for _, x := range list {
			if got, want := angle.Atan(y, x), wantAtan(y, x); got != want {
				t.Fatalf("Atan(%d, %d) is %d, want %d", y, x, got, want)
			}
		}
	}
}

// 4.2: Atan of each slope that can be told from the next one, about the whole turn.
func TestAtanOfEachSlope(t *testing.T) {
	for v := 0; v <= 65536; v += 3 {
		for _, c := range [][2]int{
			{v, 65536}, {65536, v}, {65536, -v}, {v, -65536},
			{-v, -65536}, {-65536, -v}, {-65536, v}, {-v, 65536},
		} {
			if got, want := angle.Atan(c[0], c[1]), wantAtan(c[0], c[1]); got != want {
				t.Fatalf("Atan(%d, %d) is %d, want %d", c[0], c[1], got, want)
			}
		}
	}
}
