package affine_test

import (
	"math"
	"testing"

	"versal/affine"
	"versal/api"
)

func TestOneShiftScale(t *testing.T) {
	for _, c := range []struct {
		name      string
		got, want api.Affine
	}{
		{"One", affine.One(), api.Affine{XX: one, YY: one}},
		{"Shift", affine.Shift(5, -7), api.Affine{XX: one, YY: one, DX: 5, DY: -7}},
		{"Shift of nothing", affine.Shift(0, 0), api.Affine{XX: one, YY: one}},
		{"Shift at the ends", affine.Shift(most, -most), api.Affine{XX: one, YY: one, DX: most, DY: -most}},
		{"Shift beyond the ends", affine.Shift(most+1, -most-1), api.Affine{XX: one, YY: one, DX: most, DY: -most}},
		{"Shift far beyond", affine.Shift(math.MinInt, math.MaxInt), api.Affine{XX: one, YY: one, DX: -most, DY: most}},
		{"Scale", affine.Scale(2*one, -3), api.Affine{XX: 2 * one, YY: -3}},
		{"Scale of nothing", affine.Scale(0, 0), api.Affine{}},
		{"Scale at the ends", affine.Scale(most, -most), api.Affine{XX: most, YY: -most}},
		{"Scale beyond the ends", affine.Scale(most+1, -most-1), api.Affine{XX: most, YY: -most}},
		{"Scale far beyond", affine.Scale(math.MinInt, math.MaxInt), api.Affine{XX: -most, YY: most}},
	} {
		if c.got != c.want {
			t.Errorf("5.2: %s: %+v, not %+v", c.name, c.got, c.want)
		}
	}
}

func TestRotate(t *testing.T) {
	quarter := api.Affine{YX: one, XY: -one}
	halfway := api.Affine{XX: -one, YY: -one}
	threefold := api.Affine{YX: -one, XY: one}
	for _, c := range []struct {
		a int
		m api.Affine
	}{
		{0, affine.One()},
		{16384, quarter},
		{32768, halfway},
		{49152, threefold},
		{65536, affine.One()},
		{-16384, threefold},
		{-32768, halfway},
		{-49152, quarter},
		{5*65536 + 16384, quarter},
		{8192, api.Affine{XX: 46260, YX: 46260, XY: -46260, YY: 46260}},
		{24576, api.Affine{XX: -46260, YX: 46260, XY: -46260, YY: -46260}},
		{1<<40 + 16384, quarter},
		{math.MinInt, affine.One()},
		{math.MinInt + 16384, quarter},
		{math.MaxInt, affine.Rotate(-1)},
	} {
		if got := affine.Rotate(c.a); got != c.m {
			t.Errorf("5.2: Rotate(%d): %+v, not %+v", c.a, got, c.m)
		}
	}
	// counter-clockwise: what lies to the right stands
	if u, v := affine.Apply(affine.Rotate(16384), 10, 3); u != -3 || v != 10 {
		t.Errorf("5.2: Rotate leads to %d, %d", u, v)
	}
}

func TestSkew(t *testing.T) {
	for _, c := range []struct {
		ax, ay, xy, yx int
	}{
		{0, 0, 0, 0},
		{8192, 0, -one, 0},
		{0, 8192, 0, one},
		{-8192, -8192, one, -one},
		{24576, 40960, one, one},
		// a tangent below 0 is floored; then it takes the other sign
		{1, 1, -6, 6},
		{-1, -1, 7, -7},
		// no number
		{16384, 0, -most, 0},
		{0, 16384, 0, most},
		{49152, 0, most, 0},
		{0, 49152, 0, -most},
		{-16384, 16384, most, most},
		{16384, -16384, -most, -most},
		// far beyond
		{math.MinInt, math.MaxInt, 0, -7},
		{math.MaxInt, math.MinInt, 7, 0},
		{math.MinInt + 8192, 1<<40 + 8192, -one, one},
	} {
		want := api.Affine{XX: one, YX: c.yx, XY: c.xy, YY: one}
		if got := affine.Skew(c.ax, c.ay); got != want {
			t.Errorf("5.2: Skew(%d, %d): %+v, not %+v", c.ax, c.ay, got, want)
		}
	}
}

func TestAround(t *testing.T) {
	twice := affine.Scale(2*one, 2*one)
	for _, c := range []struct {
		name   string
		m      api.Affine
		x, y   int
		dx, dy int
	}{
		{"(0, 0)", unlike, 0, 0, 11, 13},
		// 100 - 2 100 - 5 1000 + 11, 1000 - 3 100 - 7 1000 + 13
		{"six unlike", unlike, 100, 1000, -5089, -6287},
		{"six unlike, below 0", unlike, -100, 1000, -4889, -5687},
		{"onto itself", affine.One(), 100, 1000, 0, 0},
		{"twice", twice, 10 * one, -20 * one, -10 * one, 20 * one},
		{"a quarter", affine.Rotate(16384), 10, 3, 13, -7},
		// twice the end is Clipped on the way: the place leads back to 0
		{"the ends", twice, most, -most, 0, 0},
		{"beyond the ends", twice, most + 1, -most - 1, 0, 0},
		{"far beyond", twice, math.MinInt, math.MaxInt, 0, 0},
		{"far beyond, the other way", twice, math.MaxInt, math.MinInt, 0, 0},
		{"turned at the least", affine.Rotate(32768), math.MinInt, math.MinInt, -most, -most},
		{"turned at the greatest", affine.Rotate(32768), math.MaxInt, math.MaxInt, most, most},
	} {
		want := c.m
		want.DX, want.DY = c.dx, c.dy
		if got := affine.Around(c.m, c.x, c.y); got != want {
			t.Errorf("5.2: Around: %s: %+v, not %+v", c.name, got, want)
		}
	}
	wild := api.Affine{XX: math.MinInt, YX: math.MaxInt, XY: math.MinInt, YY: math.MaxInt, DX: math.MinInt, DY: math.MaxInt}
	tame := api.Affine{XX: -most, YX: most, XY: -most, YY: most, DX: -most, DY: most}
	if got := affine.Around(wild, 0, 0); got != tame {
		t.Errorf("5.2: Around (0, 0) of the ends: %+v, not %+v", got, tame)
	}
}

// TestAroundStays: the place about which all is turned is led onto itself.
func TestAroundStays(t *testing.T) {
	for _, m := range []api.Affine{affine.Scale(2*one, -3*one), affine.Rotate(16384), affine.Skew(8192, 24576)} {
		for _, c := range [][2]int{{0, 0}, {5, 7}, {-100 * one, 3 * one}, {1000 * one, 12345}} {
			if u, v := affine.Apply(affine.Around(m, c[0], c[1]), c[0], c[1]); u != c[0] || v != c[1] {
				t.Errorf("5.2: Around %d, %d of %+v: led to %d, %d", c[0], c[1], m, u, v)
			}
		}
	}
}
