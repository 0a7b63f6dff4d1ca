package blend

import "testing"

// What two pixels never come to is asked of the inner calls: numbers far beyond
// 0 to 255.

// 13.2: Lum is floored below 0 too.
func TestLum(t *testing.T) {
	for _, c := range []struct {
		x    three
		want int
	}{
		{three{0, 0, 0}, 0}, {three{255, 255, 255}, 255}, {three{200, 100, 0}, 119}, {three{1, 1, 0}, 0}, {three{1, 0, 7}, 1},
		{three{-1, 0, 0}, -1}, {three{0, 0, -1}, -1}, {three{0, 0, -9}, -1}, {three{0, 0, -10}, -2}, {three{-1, -1, -1}, -1},
		{three{-10, 5, 0}, -1}, {three{-18, -18, 237}, 10}, {three{0, -100, 0}, -59}, {three{0, -101, 0}, -60},
	} {
		if got := lum(c.x); got != c.want {
			t.Errorf("13.2: Lum of %v is %d, want %d", c.x, got, c.want)
		}
	}
}

// 13.2: Sat is the greatest less the least, whichever they are.
func TestSat(t *testing.T) {
	for _, c := range []struct {
		x    three
		want int
	}{
		{three{0, 0, 0}, 0}, {three{7, 7, 7}, 0}, {three{255, 0, 0}, 255}, {three{0, 255, 9}, 255}, {three{9, 8, 200}, 192},
		{three{1, 2, 3}, 2}, {three{2, 3, 1}, 2}, {three{3, 1, 2}, 2}, {three{-5, 0, 5}, 10}, {three{-5, -9, -7}, 4},
	} {
		if got := sat(c.x); got != c.want {
			t.Errorf("13.2: Sat of %v is %d, want %d", c.x, got, c.want)
		}
	}
}

// 13.2: Sated: the least becomes 0, the greatest n, what lies between is floored;
// of no Sat all are 0.
func TestSated(t *testing.T) {
	for _, c := range []struct {
		x    three
		n    int
		want three
	}{
		{three{7, 7, 7}, 200, three{0, 0, 0}}, {three{0, 0, 0}, 255, three{0, 0, 0}}, {three{255, 255, 255}, 9, three{0, 0, 0}},
		{three{10, 20, 30}, 100, three{0, 50, 100}}, {three{30, 10, 20}, 100, three{100, 0, 50}},
		// 255 by 3 of 1 and of 2; 10 by 3.
		{three{1, 2, 4}, 255, three{0, 85, 255}}, {three{1, 3, 4}, 10, three{0, 6, 10}}, {three{1, 2, 4}, 10, three{0, 3, 10}},
		{three{0, 100, 200}, 0, three{0, 0, 0}}, {three{5, 5, 6}, 255, three{0, 0, 255}}, {three{-4, 0, 4}, 9, three{0, 4, 9}},
		// Numbers below 0 are floored.
		{three{0, 1, 2}, -3, three{0, -2, -3}},
	} {
		if got := sated(c.x, c.n); got != c.want {
			t.Errorf("13.2: Sated of %v and %d is %v, want %v", c.x, c.n, got, c.want)
		}
	}
}

// 13.2: Lit where no number is beyond, where the least is, where the greatest is,
// where both are, and where l is one of them.
func TestLit(t *testing.T) {
	for _, c := range []struct {
		x    three
		n    int
		want three
	}{
		{three{10, 20, 30}, 18, three{10, 20, 30}}, {three{10, 20, 30}, 28, three{20, 30, 40}}, {three{10, 20, 30}, 8, three{0, 10, 20}},
		// 9 less than 18: -1 9 19: 7 and -8 * 7 / 8, 2 * 7 / 8, 12 * 7 / 8.
		{three{10, 20, 30}, 7, three{0, 8, 17}},
		// Lum 76, 24 more: 279 24 24: -76 * 155 / 179 is floored to -66.
		{three{255, 0, 0}, 100, three{255, 34, 34}},
		// Lum 295, 152 less: -152 348 -152, both ends beyond; the first step makes
		// 0 242 0, and the second one is by 348, not by 242: -143 * 112 / 205
		// and 99 * 112 / 205.
		{three{0, 500, 0}, 143, three{64, 197, 64}},
		// Lum 35, 65 more: -235 165 665; then 0 119 268; then -100, 19 and 168 by
		// 155 / 565.
		{three{-300, 100, 600}, 100, three{72, 105, 146}},
		// Gray: l is the least and the greatest.
		{three{7, 7, 7}, 0, three{0, 0, 0}}, {three{7, 7, 7}, 255, three{255, 255, 255}}, {three{7, 7, 7}, -1, three{0, 0, 0}},
		{three{7, 7, 7}, -300, three{0, 0, 0}}, {three{7, 7, 7}, 256, three{255, 255, 255}}, {three{7, 7, 7}, 900, three{255, 255, 255}},
		// l is the least alone: -5 -5 -4.
		{three{0, 0, 1}, -5, three{0, 0, 0}},
	} {
		if got := lit(c.x, c.n); got != c.want {
			t.Errorf("13.2: Lit of %v and %d is %v, want %v", c.x, c.n, got, c.want)
		}
	}
}

// 13.2: what is floored is the greatest whole number that is not above.
func TestFloored(t *testing.T) {
	for n := -1000; n <= 1000; n++ {
		for d := 1; d <= 40; d++ {
			if q := floored(n, d); q*d > n || (q+1)*d <= n {
				t.Fatalf("13.2: %d by %d is %d", n, d, q)
			}
		}
	}
}

// 13.2: Lit brings all within 0 to 255, whatever it is given.
func TestLitIsWithin(t *testing.T) {
	list := []int{-900, -256, -1, 0, 1, 100, 255, 256, 700}
	for _, r := range list {
		for _, g := range list {
			for _, b := range list {
				for n := -300; n <= 600; n += 20 {
					x := lit(three{r, g, b}, n)
					if least(x) < 0 || greatest(x) > 255 {
						t.Fatalf("13.2: Lit of %d %d %d and %d is %v", r, g, b, n, x)
					}
				}
			}
		}
	}
}
