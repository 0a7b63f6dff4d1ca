package angle_test

import (
	"math"
	"testing"

	"versal/angle"
	"versal/api"
)

const most = api.Most

// turned is a call of one angle: what it was given, what it must be.
type turned struct{ a, want int }

func check(t *testing.T, name string, call func(int) int, list []turned) {
	t.Helper()
	for _, c := range list {
		if got := call(c.a); got != c.want {
			t.Errorf("%s(%d) is %d, want %d", name, c.a, got, c.want)
		}
	}
}

// 4.1: Norm: 0 to 65535, whole turns apart, below 0 too.
func TestNorm(t *testing.T) {
	check(t, "Norm", angle.Norm, []turned{
		{0, 0}, {1, 1}, {12345, 12345}, {32768, 32768}, {65535, 65535}, {65536, 0}, {65537, 1},
		{131071, 65535}, {131072, 0}, {5*65536 + 77, 77},
		{-1, 65535}, {-77, 65459}, {-65535, 1}, {-65536, 0}, {-65537, 65535}, {-5*65536 - 1, 65535},
		{most, 65535}, {most + 1, 0}, {-most, 1}, {-most - 1, 0}, {1<<40 + 9, 9}, {-1<<40 + 9, 9},
		{math.MaxInt, 65535}, {math.MinInt, 0}, {math.MinInt + 1, 1},
	})
}

// 4.1: Sin: the quarters to the point, both ends of each half, angles of all quarters.
func TestSin(t *testing.T) {
	check(t, "Sin", angle.Sin, []turned{
		{0, 0}, {16384, 65536}, {32768, 0}, {49152, -65536}, {65536, 0},
		{1, 6}, {2, 12}, {32767, 6}, {32766, 12}, {32769, -6}, {65535, -6}, {65534, -12},
		{8192, 46260}, {24576, 46260}, {40960, -46260}, {57344, -46260},
		{16383, 65535}, {16385, 65535}, {49151, -65535}, {49153, -65535},
		{4096, 25137}, {28672, 25137}, {36864, -25137}, {61440, -25137},
		{-1, -6}, {-8192, -46260}, {-16384, -65536}, {-32768, 0}, {-49152, 65536}, {-65536, 0}, {-65537, -6},
		{65537, 6}, {16384 + 5*65536, 65536}, {16384 - 5*65536, 65536}, {8192 + 1<<40, 46260},
		{math.MaxInt, -6}, {math.MinInt, 0}, {math.MinInt + 16384, 65536}, {math.MaxInt - 16383, -65536},
	})
}

// 4.1: Cos: a quarter on, beyond the end of the turn too.
func TestCos(t *testing.T) {
	check(t, "Cos", angle.Cos, []turned{
		{0, 65536}, {16384, 0}, {32768, -65536}, {49152, 0}, {65536, 65536},
		{1, 65535}, {16383, 6}, {16385, -6}, {49151, -6}, {49153, 6}, {65535, 65535},
		{8192, 46260}, {24576, -46260}, {40960, -46260}, {57344, 46260}, {12288, 25137},
		{-1, 65535}, {-8192, 46260}, {-16384, 0}, {-24576, -46260}, {-32768, -65536}, {-65536, 65536},
		{131072, 65536}, {1<<40 + 32768, -65536},
		{math.MaxInt, 65535}, {math.MaxInt - 16383, 0}, {math.MaxInt - 32767, -65536}, {math.MinInt, 65536}, {math.MinInt + 32768, -65536},
	})
}

// 4.1: Tan: floored; at the quarters where Cos is 0 the end on Sin's side.
func TestTan(t *testing.T) {
	check(t, "Tan", angle.Tan, []turned{
		{0, 0}, {8192, 65536}, {24576, -65536}, {32768, 0}, {40960, 65536}, {57344, -65536}, {65536, 0},
		{16384, most}, {49152, -most}, {-16384, -most}, {-49152, most}, {16384 + 65536, most}, {49152 + 65536, -most},
		{16383, 65535 * 65536 / 6}, {16385, -65535 * 65536 / 6}, {49151, 65535 * 65536 / 6}, {49153, -65535 * 65536 / 6},
		{1, 6}, {32769, 6}, {-1, -7}, {65535, -7}, {32767, -7},
		{4096, 27232}, {-4096, -27233}, {28672, -27233}, {36864, 27232},
		{math.MaxInt, -7}, {math.MinInt, 0}, {math.MinInt + 16384, most}, {math.MaxInt - 16383, -most},
	})
}

// 4.1: no angle but the two quarters is without a tangent, and the calls are
// those of a circle: near it, odd and even, the same half a turn on.
func TestRoundTheCircle(t *testing.T) {
	for a := 0; a < 65536; a++ {
		s, c := angle.Sin(a), angle.Cos(a)
		if (c == 0) != (a == 16384 || a == 49152) {
			t.Fatalf("Cos(%d) is %d", a, c)
		}
		if angle.Sin(-a) != -s || angle.Cos(-a) != c || angle.Sin(a+32768) != -s || angle.Cos(a+32768) != -c {
			t.Fatalf("at %d: not as on the other side", a)
		}
		real := math.Sin(float64(a) / 65536 * 2 * math.Pi)
		if far := math.Abs(float64(s)/65536 - real); far > 0.0017 {
			t.Fatalf("Sin(%d) is %d: %g off", a, s, far)
		}
	}
}
