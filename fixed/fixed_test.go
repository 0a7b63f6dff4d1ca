package fixed_test

import (
	"math"
	"testing"

	"versal/api"
	"versal/fixed"
)

const most = api.Most

// one is a call of one number: what it was given, what it must be.
type one struct{ n, want int }

// two is a call of two numbers.
type two struct{ a, b, want int }

func checkOne(t *testing.T, name string, call func(int) int, list []one) {
	t.Helper()
	for _, c := range list {
		if got := call(c.n); got != c.want {
			t.Errorf("%s(%d) is %d, want %d", name, c.n, got, c.want)
		}
	}
}

func checkTwo(t *testing.T, name string, call func(a, b int) int, list []two) {
	t.Helper()
	for _, c := range list {
		if got := call(c.a, c.b); got != c.want {
			t.Errorf("%s(%d, %d) is %d, want %d", name, c.a, c.b, got, c.want)
		}
	}
}

// 3.1: Clip: within -Most to Most, each end included.
func TestClip(t *testing.T) {
	checkOne(t, "Clip", fixed.Clip, []one{
		{0, 0}, {1, 1}, {-1, -1}, {123456789, 123456789}, {-123456789, -123456789},
		{most - 1, most - 1}, {most, most}, {most + 1, most}, {most + 2, most},
		{1 - most, 1 - most}, {-most, -most}, {-most - 1, -most}, {-most - 2, -most},
		{1 << 32, most}, {-1 << 32, -most},
		{math.MaxInt, most}, {math.MinInt, -most},
	})
}

// 3.1: Mul: rounded, a half up, floored below 0 too; arguments and answer Clipped.
func TestMul(t *testing.T) {
	checkTwo(t, "Mul", fixed.Mul, []two{
		{98304, 98304, 147456},
		{0, 0, 0}, {0, most, 0}, {65536, 65536, 65536}, {65536, -5, -5}, {-65536, -5, 5},
		{131072, 3, 6}, {1, 1, 0}, {1, -1, 0},
		// One beside the half, the half, one beyond it: of 1 and of -1.
		{1, 32767, 0}, {1, 32768, 1}, {1, 32769, 1},
		{1, -32767, 0}, {1, -32768, 0}, {1, -32769, -1},
		{3, 32768, 2}, {3, -32768, -1}, {-3, -32768, 2},
		{5, -32768, -2}, {5, -32769, -3},
		// The answer at the ends, and beyond.
		{most, 65536, most}, {-most, 65536, -most}, {most, 65537, most}, {-most, 65537, -most},
		{most, 65535, 2147450879}, {-most, 65535, -2147450879},
		{most, most, most}, {most, -most, -most}, {-most, -most, most},
		// An argument beyond the ends counts as the end, not as itself.
		{most + 1, 32768, 1 << 30}, {most, 32768, 1 << 30}, {-most - 1, 32768, -most / 2},
		{1 << 40, 1, 32768}, {-1 << 40, 1, -32768}, {1 << 40, 2, 65536},
		{math.MaxInt, 1, 32768}, {math.MinInt, 1, -32768}, {math.MinInt, -1, 32768},
		{math.MaxInt, 0, 0}, {math.MinInt, 0, 0},
		{math.MaxInt, math.MaxInt, most}, {math.MinInt, math.MinInt, most}, {math.MinInt, math.MaxInt, -most},
	})
}

// 3.1: Div: floored whatever the signs; by 0 the end on a's side.
func TestDiv(t *testing.T) {
	checkTwo(t, "Div", fixed.Div, []two{
		{-65536, 196608, -21846}, {65536, 196608, 21845}, {65536, -196608, -21846}, {-65536, -196608, 21845},
		{65536, 131072, 32768}, {-65536, 131072, -32768}, {65536, -131072, -32768}, {-65536, -131072, 32768},
		{0, 7, 0}, {0, -7, 0}, {7, 65536, 7}, {-7, 65536, -7}, {7, -65536, -7},
		{1, 3, 21845}, {-1, 3, -21846}, {1, 65537, 0}, {-1, 65537, -1}, {1, -65537, -1}, {-1, -65537, 0},
		{5, 0, most}, {1, 0, most}, {most, 0, most}, {math.MaxInt, 0, most},
		{-5, 0, -most}, {-1, 0, -most}, {-most, 0, -most}, {math.MinInt, 0, -most},
		{0, 0, 0},
		{most, 1, most}, {-most, 1, -most}, {most, -1, -most}, {-most, -1, most},
		{1, most, 0}, {-1, most, -1}, {1, -most, -1}, {-1, -most, 0},
		{most, most, 65536}, {-most, most, -65536}, {most, -most, -65536},
		{32767, 1, 32767 * 65536}, {32768, 1, most}, {-32768, 1, -most},
		// Beyond the ends both count as the end.
		{most + 1, most, 65536}, {1 << 40, most, 65536}, {most, 1 << 40, 65536}, {most, -1 << 40, -65536},
		{65536, most + 1, 2}, {65536, 1 << 40, 2}, {65536, math.MinInt, -3}, {65536, math.MaxInt, 2},
		{math.MaxInt, math.MaxInt, 65536}, {math.MinInt, math.MaxInt, -65536},
		{math.MaxInt, math.MinInt, -65536}, {math.MinInt, math.MinInt, 65536}, {math.MinInt, -1, most},
	})
}

// 3.1: Lerp: at both ends, between, before and behind; the way is Clipped by Mul.
func TestLerp(t *testing.T) {
	for _, c := range []struct{ a, b, t, want int }{
		{10, 20, 0, 10}, {10, 20, 65536, 20}, {10, 20, 32768, 15}, {10, 20, 131072, 30}, {10, 20, -65536, 0},
		{100, 0, 65536, 0}, {100, 0, 16384, 75}, {0, 100, 32768, 50}, {-100, 100, 16384, -50},
		{5, 5, most, 5}, {5, 5, -most, 5}, {0, 1, 32767, 0}, {0, 1, 32768, 1},
		{0, -1, 32768, 0}, {0, -1, 32769, -1}, {0, 1, -32769, -1},
		{7, 4, 32768, 6}, {4, 7, 32768, 6},
		{-most, most, 0, -most}, {-most, most, 65536, 0}, {most, -most, 65536, 0}, {-most, most, 131072, 0},
		{-most, most, 32768, 1<<30 - most},
		{most, 0, -65536, most}, {-most, 0, -65536, -most}, {0, most, 131072, most}, {0, -most, 131072, -most},
		// Each argument beyond the ends counts as the end.
		{most + 1, most, 0, most}, {1 << 40, 0, 65536, 0}, {-1 << 40, 0, 65536, 0}, {0, 1 << 40, 32768, 1 << 30},
		{0, 2, 1 << 40, 65536}, {0, 2, -1 << 40, -65536}, {1 << 40, 1 << 41, 65536, most},
		{math.MinInt, math.MaxInt, 65536, 0}, {math.MaxInt, math.MinInt, 65536, 0},
		{math.MinInt, math.MinInt, math.MinInt, -most}, {math.MaxInt, math.MaxInt, math.MaxInt, most},
		{math.MinInt, math.MaxInt, math.MinInt, -most}, {math.MinInt, 0, math.MaxInt, 0},
	} {
		if got := fixed.Lerp(c.a, c.b, c.t); got != c.want {
			t.Errorf("Lerp(%d, %d, %d) is %d, want %d", c.a, c.b, c.t, got, c.want)
		}
	}
}

// 3.1: Round: a half goes up, below 0 too.
func TestRound(t *testing.T) {
	checkOne(t, "Round", fixed.Round, []one{
		{0, 0}, {1, 0}, {32767, 0}, {32768, 1}, {32769, 1}, {65535, 1}, {65536, 1},
		{98303, 1}, {98304, 2}, {98305, 2},
		{-1, 0}, {-32767, 0}, {-32768, 0}, {-32769, -1}, {-65536, -1}, {-98304, -1}, {-98305, -2},
		{most, 32768}, {most - 32768, 32767}, {most - 32767, 32768}, {most + 1, 32768},
		{-most, -32768}, {-most - 1, -32768}, {-most - 32770, -32768}, {32768 - most, -32767},
		{1 << 40, 32768}, {-1 << 40, -32768}, {math.MaxInt, 32768}, {math.MinInt, -32768},
	})
}

// 3.1: Whole: times 65536, within the ends.
func TestWhole(t *testing.T) {
	checkOne(t, "Whole", fixed.Whole, []one{
		{0, 0}, {1, 65536}, {-1, -65536}, {1000, 65536000},
		{32767, 32767 * 65536}, {32768, most}, {-32767, -32767 * 65536}, {-32768, -most}, {-32769, -most},
		{most, most}, {-most, -most}, {1 << 48, most}, {-1 << 48, -most}, {1<<47 + 1, most},
		{math.MaxInt, most}, {math.MinInt, -most},
	})
}

// 3.1: From14: times 4, within the ends.
func TestFrom14(t *testing.T) {
	checkOne(t, "From14", fixed.From14, []one{
		{0, 0}, {1, 4}, {-1, -4}, {16384, 65536}, {-16384, -65536}, {32767, 131068}, {-32768, -131072},
		{most / 4, 2147483644}, {most/4 + 1, most}, {-(most / 4), -2147483644}, {-(most / 4) - 1, -most},
		{most, most}, {-most, -most}, {1 << 62, most}, {-1 << 62, -most}, {1<<62 + 1, most},
		{math.MaxInt, most}, {math.MinInt, -most},
	})
}

// 3.1: Ratio: its numbers are not Clipped, but brought within 2^46 each way.
func TestRatio(t *testing.T) {
	const far = 1 << 46
	checkTwo(t, "Ratio", fixed.Ratio, []two{
		{1, 2, 32768}, {1, 3, 21845}, {-1, 3, -21846}, {1, -3, -21846}, {-1, -3, 21845}, {0, 5, 0}, {0, -5, 0},
		{5, 0, 0}, {-5, 0, 0}, {0, 0, 0}, {math.MaxInt, 0, 0}, {math.MinInt, 0, 0},
		{32767, 1, 32767 * 65536}, {32768, 1, most}, {-32768, 1, -most}, {-32768, -1, most},
		// Beyond Most they count as they are.
		{1 << 40, 1 << 41, 32768}, {-1 << 40, 1 << 41, -32768}, {3, 1 << 40, 0}, {-3, 1 << 40, -1}, {3, -1 << 40, -1},
		{1 << 40, 3 << 40, 21845}, {-1 << 40, 3 << 40, -21846},
		// At 2^46, and one beyond it.
		{far, 1, most}, {-far, 1, -most}, {far, -1, -most}, {-far, -1, most},
		{far, far, 65536}, {-far, far, -65536}, {far, -far, -65536}, {-far, -far, 65536},
		{far + 1, far, 65536}, {-far - 1, far, -65536}, {far, far + 1, 65536}, {far, -far - 1, -65536},
		{far - 1, far, 65535}, {1 - far, far, -65536}, {far, far - 1, 65536}, {-far, far - 1, -65537},
		{1 << 30, far, 1}, {1<<30 - 1, far, 0}, {1 << 30, far + 1, 1}, {1 << 30, far - 1, 1},
		{-1 << 30, far, -1}, {-1 << 30, far + 1, -1}, {-1 << 30, far - 1, -2}, {-1 << 30, 1<<46 - 2, -2},
		{far, 1 << 40, 1 << 22}, {far + 1, 1 << 31, most}, {far, 1<<31 + 1<<16, 2147418113},
		{1 << 50, far, 65536}, {far, 1 << 50, 65536}, {1 << 50, 1 << 51, 65536}, {math.MinInt, math.MaxInt, -65536},
		{math.MaxInt, math.MaxInt, 65536}, {math.MinInt, math.MinInt, 65536}, {math.MaxInt, math.MinInt, -65536},
		{math.MaxInt, 1, most}, {math.MinInt, 1, -most}, {math.MinInt, -1, most},
		{1, math.MaxInt, 0}, {-1, math.MaxInt, -1}, {1, math.MinInt, -1}, {-1, math.MinInt, 0},
	})
}

// 3.1: Root: floored, not Clipped; 0 below 0.
func TestRoot(t *testing.T) {
	checkOne(t, "Root", fixed.Root, []one{
		{0, 0}, {1, 1}, {2, 1}, {3, 1}, {4, 2}, {5, 2}, {8, 2}, {9, 3}, {15, 3}, {16, 4}, {99, 9}, {100, 10},
		{65535, 255}, {65536, 256}, {1<<32 - 1, 65535}, {1 << 32, 65536},
		{1<<62 - 1, most}, {1 << 62, most + 1}, {1<<62 + 1, most + 1},
		{3037000499 * 3037000499, 3037000499}, {3037000499*3037000499 - 1, 3037000498},
		{math.MaxInt - 1, 3037000499}, {math.MaxInt, 3037000499},
		{-1, 0}, {-4, 0}, {-1 << 62, 0}, {math.MinInt + 1, 0}, {math.MinInt, 0},
	})
}

// 3.1: Root of whole squares, and of the numbers beside them, at all lengths.
func TestRootBesideSquares(t *testing.T) {
	roots := []int{}
	for r := 1; r < 2000; r++ {
		roots = append(roots, r)
	}
	for r := 2000; r < 3037000499; r += r/40 + 1 {
		roots = append(roots, r)
	}
	for _, r := range append(roots, 3037000499) {
		checkOne(t, "Root", fixed.Root, []one{{r*r - 1, r - 1}, {r * r, r}, {r*r + 1, r}})
	}
}
