package affine_test

import (
	"testing"

	"versal/affine"
	"versal/api"
)

// lengths: how many bits the numbers have that a run is over: those of a
// font, those of all of 16.16, those beyond it.
var lengths = []int{18, 24, 32, 40, 63}

const runs = 20000

func holdApply(t *testing.T, m api.Affine, x, y int) {
	t.Helper()
	u, v := affine.Apply(m, x, y)
	if a, b := wantApply(m, x, y); u != a || v != b {
		t.Fatalf("5.1: Apply(%+v, %d, %d): %d, %d, not %d, %d", m, x, y, u, v, a, b)
	}
}

func holdMul(t *testing.T, a, b api.Affine) {
	t.Helper()
	if got, want := affine.Mul(a, b), wantMul(a, b); got != want {
		t.Fatalf("5.1: Mul(%+v, %+v): %+v, not %+v", a, b, got, want)
	}
}

func holdInverse(t *testing.T, m api.Affine) {
	t.Helper()
	got, ok := affine.Inverse(m)
	if want, there := wantInverse(m); got != want || ok != there {
		t.Fatalf("5.1: Inverse(%+v): %+v %v, not %+v %v", m, got, ok, want, there)
	}
}

func holdAround(t *testing.T, m api.Affine, x, y int) {
	t.Helper()
	if got, want := affine.Around(m, x, y), wantAround(m, x, y); got != want {
		t.Fatalf("5.2: Around(%+v, %d, %d): %+v, not %+v", m, x, y, got, want)
	}
}

// TestAllLengths holds each call against the reference, over numbers of all
// lengths.
func TestAllLengths(t *testing.T) {
	for _, bits := range lengths {
		next := spread(bits)
		for range runs {
			m, n, x, y := someAffine(next), someAffine(next), next(), next()
			holdApply(t, m, x, y)
			holdMul(t, m, n)
			holdMul(t, n, m)
			holdInverse(t, m)
			holdAround(t, m, x, y)
		}
	}
}

// TestAllFields puts each number about which something turns into each field
// and each argument, the others being unlike one another.
func TestAllFields(t *testing.T) {
	plain := [6]int{2 * api.One, 3 * api.One, 5 * api.One, 7 * api.One, 11, 13}
	other := affineOf([6]int{-3 * api.One, api.One / 2, 9, -4 * api.One, 70000, -1})
	for _, n := range seeds() {
		for k := range plain {
			list := plain
			list[k] = n
			m := affineOf(list)
			holdApply(t, m, 100, -70000)
			holdMul(t, m, other)
			holdMul(t, other, m)
			holdInverse(t, m)
			holdAround(t, m, 100, -70000)
		}
		m := affineOf(plain)
		holdApply(t, m, n, 100)
		holdApply(t, m, 100, n)
		holdAround(t, m, n, 100)
		holdAround(t, m, 100, n)
	}
}

// TestAllPairs puts each two numbers about which something turns into each
// two fields.
func TestAllPairs(t *testing.T) {
	plain := [6]int{-2 * api.One, api.One, -api.One / 2, 7, 3 * api.One, -5}
	for _, n := range seeds() {
		for _, o := range seeds() {
			for i := range plain {
				for k := range i {
					list := plain
					list[i], list[k] = n, o
					m := affineOf(list)
					holdApply(t, m, o, n)
					holdInverse(t, m)
				}
			}
			holdAround(t, affineOf(plain), n, o)
		}
	}
}

// TestAllEnds goes through every affine whose numbers are all at an end, or 0.
func TestAllEnds(t *testing.T) {
	far := []int{-api.Most, 0, api.Most}
	count := len(far) * len(far) * len(far) * len(far) * len(far) * len(far)
	for k := range count {
		var list [6]int
		for i := range list {
			list[i] = far[k%len(far)]
			k /= len(far)
		}
		m := affineOf(list)
		holdInverse(t, m)
		holdMul(t, m, m)
		for _, x := range far {
			for _, y := range far {
				holdApply(t, m, x, y)
				holdAround(t, m, x, y)
			}
		}
	}
}

// TestAllMade holds those that are made of two numbers, or of an angle,
// against the reference.
func TestAllMade(t *testing.T) {
	for _, n := range seeds() {
		for _, o := range seeds() {
			if got, want := affine.Shift(n, o), wantShift(n, o); got != want {
				t.Fatalf("5.2: Shift(%d, %d): %+v, not %+v", n, o, got, want)
			}
			if got, want := affine.Scale(n, o), wantScale(n, o); got != want {
				t.Fatalf("5.2: Scale(%d, %d): %+v, not %+v", n, o, got, want)
			}
			if got, want := affine.Skew(n, o), wantSkew(n, o); got != want {
				t.Fatalf("5.2: Skew(%d, %d): %+v, not %+v", n, o, got, want)
			}
		}
		if got, want := affine.Rotate(n), wantRotate(n); got != want {
			t.Fatalf("5.2: Rotate(%d): %+v, not %+v", n, got, want)
		}
	}
}

// TestAllAngles goes once round, and beyond it both ways.
func TestAllAngles(t *testing.T) {
	for a := -api.Turn; a <= 2*api.Turn; a++ {
		if got, want := affine.Rotate(a), wantRotate(a); got != want {
			t.Fatalf("5.2: Rotate(%d): %+v, not %+v", a, got, want)
		}
		if got, want := affine.Skew(a, 3*a+1), wantSkew(a, 3*a+1); got != want {
			t.Fatalf("5.2: Skew(%d, %d): %+v, not %+v", a, 3*a+1, got, want)
		}
	}
}
