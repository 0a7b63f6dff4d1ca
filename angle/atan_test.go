package angle_test

import (
	"math"
	"testing"

	"versal/angle"
)

// place is where something is seen, and at which angle.
type place struct{ y, x, want int }

func checkSeen(t *testing.T, list []place) {
	t.Helper()
	for _, c := range list {
		if got := angle.Atan(c.y, c.x); got != c.want {
			t.Errorf("Atan(%d, %d) is %d, want %d", c.y, c.x, got, c.want)
		}
	}
}

// 4.2: the axes and the diagonals, near and far; nowhere is at 0.
func TestAtanOnTheEighths(t *testing.T) {
	checkSeen(t, []place{{0, 0, 0}})
	for _, n := range []int{1, 2, 3, 65536, 1000003, most - 1, most, most + 1, 1 << 40, math.MaxInt} {
		checkSeen(t, []place{
			{0, n, 0}, {n, n, 8192}, {n, 0, 16384}, {n, -n, 24576},
			{0, -n, 32768}, {-n, -n, 40960}, {-n, 0, 49152}, {-n, n, 57344},
		})
	}
}

// 4.2: places in each quarter, above and below the diagonal.
func TestAtanInTheQuarters(t *testing.T) {
	checkSeen(t, []place{
		// Half-way: 4096 and a quarter of 2847 on, floored.
		{1, 2, 4807}, {2, 1, 11577}, {2, -1, 21191}, {1, -2, 27961},
		{-1, -2, 37575}, {-2, -1, 44345}, {-2, 1, 53959}, {-1, 2, 60729},
		{1, 3, 3363}, {3, 1, 13021}, {3, -1, 19747}, {1, -3, 29405},
		{-1, -3, 36131}, {-3, -1, 45789}, {-3, 1, 52515}, {-1, 3, 62173},
		{2, 3, 6093}, {3, 2, 10291}, {100, 200, 4807}, {-100, 200, 60729},
	})
}

// 4.2: a place next to an axis is seen on it; 0 less nothing is 0, not a turn.
func TestAtanNextToAnAxis(t *testing.T) {
	checkSeen(t, []place{
		{1, most, 0}, {-1, most, 0}, {-1, 65537, 0}, {1, 65536, 0}, {-1, 65536, 0},
		{5, 65536, 0}, {-5, 65536, 0}, {6, 65536, 1}, {-6, 65536, 65535},
		{65536, 5, 16384}, {65536, -5, 16384}, {65536, 6, 16383}, {65536, -6, 16385},
		{5, -65536, 32768}, {-5, -65536, 32768}, {6, -65536, 32767}, {-6, -65536, 32769},
		{-65536, 5, 49152}, {-65536, -5, 49152}, {-65536, 6, 49153}, {-65536, -6, 49151},
		{65535, 65536, 8191}, {65536, 65535, 8193}, {most - 1, most, 8191}, {most, most - 1, 8193},
	})
}

// 4.2, R1: beyond Most a place counts as at the end.
func TestAtanBeyondTheEnds(t *testing.T) {
	checkSeen(t, []place{
		{most + 1, most, 8192}, {most, most + 1, 8192}, {-most - 1, most, 57344}, {most, -most - 1, 24576},
		{1 << 40, most, 8192}, {most, 1 << 41, 8192}, {1 << 40, 1 << 60, 8192}, {-1 << 60, 1 << 40, 57344},
		{most, 2*most + 1, 8192}, {1 << 30, 1 << 40, 4807}, {-1 << 30, 1 << 40, 60729}, {1 << 30, -1 << 40, 27961},
		{math.MaxInt, math.MaxInt, 8192}, {math.MinInt, math.MinInt, 40960}, {math.MinInt, math.MaxInt, 57344}, {math.MaxInt, math.MinInt, 24576},
		{math.MinInt, 0, 49152}, {math.MaxInt, 0, 16384}, {0, math.MinInt, 32768}, {0, math.MaxInt, 0},
		{math.MinInt, 1, 49152}, {1, math.MinInt, 32768}, {-1, math.MaxInt, 0}, {-1, math.MinInt, 32768},
	})
}

// 4.2: the angle is near the true one, and never a whole turn.
func TestAtanIsNearTheAngle(t *testing.T) {
	for y := -60; y <= 60; y++ {
		for x := -60; x <= 60; x++ {
			got := angle.Atan(y, x)
			if got < 0 || got > 65535 {
				t.Fatalf("Atan(%d, %d) is %d: no angle", y, x, got)
			}
			off := angle.Norm(got - int(math.Round(math.Atan2(float64(y), float64(x))/(2*math.Pi)*65536)))
			if off > 45 && off < 65536-45 {
				t.Fatalf("Atan(%d, %d) is %d: %d off", y, x, got, off)
			}
		}
	}
}
