package affine_test

import (
	"math"
	"testing"

	"versal/affine"
	"versal/api"
)

func TestInverse(t *testing.T) {
	for _, c := range []struct {
		name    string
		m, back api.Affine
	}{
		{"onto itself", affine.One(), affine.One()},
		{"shifted", affine.Shift(5, -7), affine.Shift(-5, 7)},
		{"scaled", affine.Scale(2*one, -4*one), affine.Scale(half, -one/4)},
		{"d is 1", api.Affine{XX: 2 * one, YX: 3 * one, XY: 5 * one, YY: 8 * one, DX: 11, DY: 13}, api.Affine{XX: 8 * one, YX: -3 * one, XY: -5 * one, YY: 2 * one, DX: -23, DY: 7}},
		{"d is -1", unlike, api.Affine{XX: -7 * one, YX: 3 * one, XY: 5 * one, YY: -2 * one, DX: 12, DY: -7}},
		{"d below 0, floored", api.Affine{XX: one, XY: one, YY: -3 * one}, api.Affine{XX: one, XY: 21845, YY: -21846}},
		{"d above 0, floored", api.Affine{XX: one, XY: one, YY: 3 * one}, api.Affine{XX: one, XY: -21846, YY: 21845}},
		{"nothing on the one side", api.Affine{YX: one, XY: 2 * one}, api.Affine{YX: half, XY: one}},
		{"DX and DY: rounded, then the other sign", api.Affine{XX: 2 * one, YY: 2 * one, DX: 1, DY: -1}, api.Affine{XX: half, YY: half, DX: -1}},
		{"the least d", api.Affine{XX: 256, YY: 256}, api.Affine{XX: 256 * one, YY: 256 * one}},
		{"the least d, Clipped", api.Affine{XX: one, YY: 1, DX: 1, DY: -1}, api.Affine{XX: one, YY: most, DX: -1, DY: 32768}},
	} {
		if got, ok := affine.Inverse(c.m); !ok || got != c.back {
			t.Errorf("5.1: Inverse: %s: %+v %v, not %+v", c.name, got, ok, c.back)
		}
	}
}

func TestInverseClips(t *testing.T) {
	for _, c := range []struct {
		name    string
		m, back api.Affine
	}{
		{"d above the end", api.Affine{XX: most, YX: -one, XY: most, YY: most}, api.Affine{XX: one, YX: 2, XY: -one, YY: one}},
		{"d below the end", api.Affine{XX: most, YX: most, XY: most, YY: -most}, api.Affine{XX: one, YX: one, XY: one, YY: -one}},
		{"d that is all of one product", api.Affine{XX: most, YY: most}, api.Affine{XX: one, YY: one}},
		{"fields ahead of their sign", api.Affine{YX: math.MinInt, XY: one}, api.Affine{YX: one, XY: -3}},
		{"fields ahead of their sign, the other one", api.Affine{YX: one, XY: math.MinInt}, api.Affine{YX: -3, XY: one}},
		{"DX and DY ahead of all", api.Affine{XX: one, YY: one, DX: math.MinInt, DY: math.MaxInt}, api.Affine{XX: one, YY: one, DX: most, DY: -most}},
		{"DX and DY as a whole", api.Affine{XX: one / 4, YY: one / 4, DX: -most, DY: most}, api.Affine{XX: 4 * one, YY: 4 * one, DX: most, DY: -most}},
	} {
		if got, ok := affine.Inverse(c.m); !ok || got != c.back {
			t.Errorf("5.1: Inverse: %s: %+v %v, not %+v", c.name, got, ok, c.back)
		}
	}
}

// TestNoInverse: where d is 0, all is.
func TestNoInverse(t *testing.T) {
	for _, c := range []struct {
		name string
		m    api.Affine
	}{
		{"nothing", api.Affine{}},
		{"a shift of nothing", api.Affine{DX: 5, DY: 7}},
		{"no width", affine.Scale(0, one)},
		{"no height", affine.Scale(one, 0)},
		{"one line", api.Affine{XX: one, YX: 2 * one, XY: 3 * one, YY: 6 * one, DX: 11, DY: 13}},
		{"one line, below 0", api.Affine{XX: one, YX: -2 * one, XY: -3 * one, YY: 6 * one}},
		{"products that are too little", api.Affine{XX: 1, YX: 1, XY: -1, YY: 1, DX: 5, DY: 7}},
		{"products that are the same, rounded", api.Affine{XX: one, YX: half, XY: 1, YY: 1}},
		{"products that are the same, Clipped", api.Affine{XX: most, YX: most, XY: most, YY: 2 * one}},
		{"products that are the same, below, Clipped", api.Affine{XX: most, YX: -most, XY: 3 * one, YY: -2 * one}},
		{"the least int all over", api.Affine{XX: math.MinInt, YX: math.MinInt, XY: math.MinInt, YY: math.MinInt, DX: math.MinInt, DY: math.MinInt}},
		{"fields that are the same, Clipped", api.Affine{XX: math.MaxInt, YX: most, XY: most, YY: most + 1}},
	} {
		if got, ok := affine.Inverse(c.m); ok || got != (api.Affine{}) {
			t.Errorf("5.1: Inverse: %s: %+v %v", c.name, got, ok)
		}
	}
}

// TestInverseLeads: of whole numbers with a d of 1 or -1, what is led there
// is led back, whichever goes first.
func TestInverseLeads(t *testing.T) {
	for _, n := range [][6]int{
		{1, 0, 0, 1, 3, 4}, {2, 3, 5, 7, 11, 13}, {2, 3, 5, 8, -9, 100}, {0, 1, 1, 0, 5, 6},
		{0, -1, 1, 0, 5, 6}, {-1, 0, 0, 1, 0, 9}, {1, 4, 0, 1, 2, 2}, {10, 3, 33, 10, -70000, 12345},
	} {
		m := api.Affine{XX: n[0] * one, YX: n[1] * one, XY: n[2] * one, YY: n[3] * one, DX: n[4], DY: n[5]}
		back, ok := affine.Inverse(m)
		if !ok || affine.Mul(m, back) != affine.One() || affine.Mul(back, m) != affine.One() {
			t.Errorf("5.1: Inverse of %+v: %+v %v", m, back, ok)
		}
		if again, ok := affine.Inverse(back); !ok || again != m {
			t.Errorf("5.1: Inverse of the Inverse of %+v: %+v %v", m, again, ok)
		}
	}
}
