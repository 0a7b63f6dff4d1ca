package rows_test

import (
	"math"
	"testing"

	"versal/api"
	"versal/rows"
	"versal/sample"
)

// refused holds that neither call takes this kind with this bpp, and that
// nothing stands beside the error.
func refused(t *testing.T, kind, bpp int) {
	t.Helper()
	for _, line := range [][]byte{nil, {}, {1}, sample.Bytes(30, 1)} {
		for _, above := range [][]byte{nil, {2}, sample.Bytes(30, 2)} {
			done, e := rows.Do(kind, bpp, line, above)
			if e != api.ErrArg || len(done) != 0 {
				t.Errorf("10.1: Do(%d, %d): %v %d", kind, bpp, done, e)
			}
			undone, e := rows.Undo(kind, bpp, line, above)
			if e != api.ErrArg || len(undone) != 0 {
				t.Errorf("10.1: Undo(%d, %d): %v %d", kind, bpp, undone, e)
			}
		}
	}
}

// beyond answers numbers that are neither a kind nor a bpp, those among them
// that are one in their lower 8, 16 or 32 bits.
func beyond() []int {
	return []int{
		-1, -2, -4, -8, -255, -256, -65535, -1 << 31, -1<<32 + 1, math.MinInt, math.MinInt + 1, math.MinInt + 4,
		9, 10, 16, 100, 255, 256, 257, 260, 65537, 1<<31 - 1, 1<<32 + 1, 1<<32 + 3, math.MaxInt, math.MaxInt - 3,
	}
}

// 10.1: ErrArg of another kind, with each bpp.
func TestOtherKinds(t *testing.T) {
	for bpp := 1; bpp <= 8; bpp++ {
		for _, kind := range append([]int{5, 6, 7, 8}, beyond()...) {
			refused(t, kind, bpp)
		}
	}
}

// 10.1: ErrArg of another bpp, with each kind, that without a filter too.
func TestOtherBpp(t *testing.T) {
	for kind := range 5 {
		for _, bpp := range append([]int{0}, beyond()...) {
			refused(t, kind, bpp)
		}
	}
}

// 10.1: ErrArg where both are other ones.
func TestBothOther(t *testing.T) {
	for _, kind := range append([]int{5}, beyond()...) {
		for _, bpp := range append([]int{0}, beyond()...) {
			refused(t, kind, bpp)
		}
	}
}

// 10.1: of all small numbers just those 5 by 8 are taken.
func TestWhichAreTaken(t *testing.T) {
	for kind := -20; kind <= 20; kind++ {
		for bpp := -20; bpp <= 20; bpp++ {
			if kind >= 0 && kind <= 4 && bpp >= 1 && bpp <= 8 {
				hold(t, kind, bpp, sample.Bytes(30, kind), sample.Bytes(30, bpp))
			} else {
				refused(t, kind, bpp)
			}
		}
	}
}
