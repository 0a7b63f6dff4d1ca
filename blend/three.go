package blend

import "versal/api"

// three is a red, a green and a blue, which may be beyond 0 to 255.
type three [3]int

// colours answers the three of p.
func colours(p api.Pixel) three { return three{p.R, p.G, p.B} }

// lum answers how light x is.
func lum(x three) int { return floored(30*x[0]+59*x[1]+11*x[2], 100) }

// sat answers how far apart the numbers of x are.
func sat(x three) int { return greatest(x) - least(x) }

// sated answers x with a Sat of n; the black three, where x has none.
func sated(x three, n int) three {
	m, width := least(x), sat(x)
	if width == 0 {
		return three{}
	}
	for k, it := range x {
		x[k] = floored((it-m)*n, width)
	}
	return x
}

// lit answers x with a Lum of n, brought within 0 to 255. The second step takes
// what the first one made, but l, m and g are those ahead of both.
func lit(x three, n int) three {
	more := n - lum(x)
	for k := range x {
		x[k] += more
	}
	l, m, g := lum(x), least(x), greatest(x)
	if m < 0 && l != m {
		x = drawn(x, l, l, l-m)
	}
	if g > full && l != g {
		x = drawn(x, l, full-l, g-l)
	}
	for k, it := range x {
		x[k] = max(0, min(full, it))
	}
	return x
}

// drawn answers x with the way of each from l made n of d of what it was.
func drawn(x three, l, n, d int) three {
	for k, it := range x {
		x[k] = l + floored((it-l)*n, d)
	}
	return x
}

func least(x three) int { return min(x[0], x[1], x[2]) }

func greatest(x three) int { return max(x[0], x[1], x[2]) }

// floored answers n / d, floored below 0 too; d is above 0.
func floored(n, d int) int {
	q := n / d
	if n%d < 0 {
		q--
	}
	return q
}
