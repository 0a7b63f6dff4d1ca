package affine_test

import (
	"math"
	"testing"

	"versal/affine"
	"versal/api"
)

const (
	one  = api.One
	half = api.One / 2
	most = api.Most
)

// unlike and strange: no two of their numbers are the same, so that none is
// taken for another one.
var (
	unlike  = api.Affine{XX: 2 * one, YX: 3 * one, XY: 5 * one, YY: 7 * one, DX: 11, DY: 13}
	strange = api.Affine{XX: 17 * one, YX: 19 * one, XY: 23 * one, YY: 29 * one, DX: 31, DY: 37}
)

func TestApply(t *testing.T) {
	for _, c := range []struct {
		name       string
		m          api.Affine
		x, y, u, v int
	}{
		{"the example", affine.Shift(1, 2), 3, 4, 4, 6},
		{"onto itself", affine.One(), -5, 9, -5, 9},
		{"six unlike", unlike, 100, 1000, 5211, 7313},
		{"six unlike, below 0", unlike, -100, 1000, 4811, 6713},
		{"of (0, 0)", unlike, 0, 0, 11, 13},
		{"nothing at all", api.Affine{}, 100, 1000, 0, 0},
		{"each product is rounded on its own", api.Affine{XX: half, XY: half, YX: half, YY: -half}, 1, 1, 2, 1},
		{"each half goes up, below 0 too", api.Affine{XX: half, XY: half, YX: -half, YY: -half}, -1, -1, 0, 2},
		{"less than a half is none", api.Affine{XX: half - 1, XY: half - 1, YX: 1 - half, YY: -half}, 1, 1, 0, 0},
	} {
		if u, v := affine.Apply(c.m, c.x, c.y); u != c.u || v != c.v {
			t.Errorf("5.1: Apply: %s: %d, %d, not %d, %d", c.name, u, v, c.u, c.v)
		}
	}
}

func TestApplyClips(t *testing.T) {
	for _, c := range []struct {
		name       string
		m          api.Affine
		x, y, u, v int
	}{
		{"three as a whole", api.Affine{XX: one, XY: one, DX: -most, YX: -one, YY: -one, DY: most}, most, most, most, -most},
		{"three as a whole, the third not to the end", api.Affine{XX: one, XY: one, DX: 5 - most, YX: one, YY: one, DY: -most}, most - 5, 7, 7, 2},
		{"a sum beyond the end", api.Affine{XX: one, DX: 1, YX: -one, DY: -1}, most, 0, most, -most},
		{"a sum at the end", api.Affine{XX: one, DX: 1, YX: -one, DY: -1}, most - 1, 0, most, -most},
		{"each product ahead of the sum", api.Affine{XX: 2 * one, XY: -one, YX: -2 * one, YY: one}, most, most, 0, 0},
		{"fields ahead of all", api.Affine{DX: math.MaxInt, DY: math.MinInt, XX: -one, YX: one}, most, 0, 0, 0},
		{"factors ahead of all", api.Affine{XX: math.MaxInt, YY: math.MinInt}, 2, 2, 65536, -65536},
		{"places ahead of all", api.Affine{XX: 2, YY: 2}, math.MaxInt, math.MinInt, 65536, -65536},
	} {
		if u, v := affine.Apply(c.m, c.x, c.y); u != c.u || v != c.v {
			t.Errorf("5.1: Apply: %s: %d, %d, not %d, %d", c.name, u, v, c.u, c.v)
		}
	}
}

func TestMul(t *testing.T) {
	for _, c := range []struct {
		name    string
		a, b, m api.Affine
	}{
		{"strange first", unlike, strange, api.Affine{XX: 129 * one, YX: 184 * one, XY: 191 * one, YY: 272 * one, DX: 258, DY: 365}},
		{"unlike first", strange, unlike, api.Affine{XX: 103 * one, YX: 125 * one, XY: 246 * one, YY: 298 * one, DX: 517, DY: 623}},
		{"onto itself first", unlike, affine.One(), unlike},
		{"onto itself then", affine.One(), unlike, unlike},
		{"nothing first", unlike, api.Affine{}, api.Affine{DX: 11, DY: 13}},
		{"nothing then", api.Affine{}, unlike, api.Affine{}},
		{"scaled, then shifted", affine.Shift(5, 7), affine.Scale(2*one, 3*one), api.Affine{XX: 2 * one, YY: 3 * one, DX: 5, DY: 7}},
		{"shifted, then scaled", affine.Scale(2*one, 3*one), affine.Shift(5, 7), api.Affine{XX: 2 * one, YY: 3 * one, DX: 10, DY: 21}},
		{"each product is rounded on its own", api.Affine{XX: half, YX: -half, XY: half, YY: -half}, api.Affine{XX: 1, YX: 1, XY: -1, YY: -1, DX: 1, DY: 1}, api.Affine{XX: 2, YX: 0, XY: 0, YY: 2, DX: 2, DY: 0}},
	} {
		if got := affine.Mul(c.a, c.b); got != c.m {
			t.Errorf("5.1: Mul: %s: %+v, not %+v", c.name, got, c.m)
		}
	}
}

func TestMulClips(t *testing.T) {
	full := api.Affine{XX: most, YX: most, XY: most, YY: most, DX: most, DY: most}
	low := api.Affine{XX: -most, YX: -most, XY: -most, YY: -most, DX: -most, DY: -most}
	for _, c := range []struct {
		name    string
		a, b, m api.Affine
	}{
		{"sums", full, full, full},
		{"sums below", full, low, api.Affine{XX: -most, YX: -most, XY: -most, YY: -most, DX: -most, DY: -most}},
		{"of three as a whole", api.Affine{XX: one, XY: one, YX: one, YY: one, DX: -most, DY: -most}, full, full},
		{
			"each product ahead of the sum",
			api.Affine{XX: 4 * one, XY: -one, YX: -4 * one, YY: one},
			full, api.Affine{},
		},
	} {
		if got := affine.Mul(c.a, c.b); got != c.m {
			t.Errorf("5.1: Mul: %s: %+v, not %+v", c.name, got, c.m)
		}
	}
}

// TestMulLeads: what is led by the product is led by the one and then by the
// other one.
func TestMulLeads(t *testing.T) {
	for x := -20; x <= 20; x += 5 {
		for y := -21; y <= 21; y += 7 {
			u, v := affine.Apply(strange, x, y)
			u, v = affine.Apply(unlike, u, v)
			if a, b := affine.Apply(affine.Mul(unlike, strange), x, y); a != u || b != v {
				t.Errorf("5.1: Mul at %d, %d: %d, %d, not %d, %d", x, y, a, b, u, v)
			}
		}
	}
}
