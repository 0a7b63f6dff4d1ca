package rows_test

import (
	"math"
	"slices"
	"testing"

	"versal/api"
	"versal/rows"
)

// lattice is PNG's picture of Adam7: in which pass each pixel of 8 by 8 is.
var lattice = [8]string{
	"16462646",
	"77777777",
	"56565656",
	"77777777",
	"36463646",
	"77777777",
	"56565656",
	"77777777",
}

// places answers the columns and the rows below w and h in which the lattice,
// laid side by side, has a pixel of this pass.
func places(pass byte, w, h int) (columns, lines []int) {
	for x := range w {
		for y := range h {
			if lattice[y%8][x%8] == pass {
				columns, lines = append(columns, x), append(lines, y)
			}
		}
	}
	slices.Sort(lines)
	return slices.Compact(columns), slices.Compact(lines)
}

// wantPasses reads the passes off the lattice: where each begins and its steps
// off two by two of it, how many columns and rows off the size.
func wantPasses(w, h int) []rows.Pass {
	var out []rows.Pass
	for pass := byte('1'); pass <= '7'; pass++ {
		c, l := places(pass, 16, 16)
		columns, lines := places(pass, w, h)
		if len(columns) > 0 {
			out = append(out, rows.Pass{X: c[0], Y: l[0], DX: c[1] - c[0], DY: l[1] - l[0], W: len(columns), H: len(lines)})
		}
	}
	return out
}

// onceEach holds that each pixel of w by h is in one pass, once, and that the
// lattice has it there; the passes stand in their order, none of them empty.
func onceEach(t *testing.T, w, h int, passes []rows.Pass) {
	t.Helper()
	seen := make([]byte, w*h)
	last := byte('0')
	for _, p := range passes {
		if p.W < 1 || p.H < 1 {
			t.Fatalf("10.1: Passes(%d, %d): none in %+v", w, h, p)
		}
		number := lattice[p.Y%8][p.X%8]
		if number <= last {
			t.Fatalf("10.1: Passes(%d, %d): pass %c behind %c", w, h, number, last)
		}
		last = number
		for k := range p.W * p.H {
			x, y := p.X+k%p.W*p.DX, p.Y+k/p.W*p.DY
			if x < 0 || x >= w || y < 0 || y >= h || seen[y*w+x] != 0 || lattice[y%8][x%8] != number {
				t.Fatalf("10.1: Passes(%d, %d): %d, %d in %+v", w, h, x, y, p)
			}
			seen[y*w+x] = number
		}
	}
	if slices.Contains(seen, 0) {
		t.Fatalf("10.1: Passes(%d, %d): a pixel in no pass", w, h)
	}
}

// same holds Passes against passes that are told.
func same(t *testing.T, w, h int, want []rows.Pass) {
	t.Helper()
	if got := rows.Passes(w, h); !slices.Equal(got, want) {
		t.Fatalf("10.1: Passes(%d, %d): %v, not %v", w, h, got, want)
	}
}

// 10.1: sizes written out.
func TestKnownPasses(t *testing.T) {
	same(t, 8, 8, []rows.Pass{
		{0, 0, 8, 8, 1, 1}, {4, 0, 8, 8, 1, 1}, {0, 4, 4, 8, 2, 1}, {2, 0, 4, 4, 2, 2}, {0, 2, 2, 4, 4, 2}, {1, 0, 2, 2, 4, 4}, {0, 1, 1, 2, 8, 4},
	})
	same(t, 1, 1, []rows.Pass{{0, 0, 8, 8, 1, 1}})
	same(t, 2, 1, []rows.Pass{{0, 0, 8, 8, 1, 1}, {1, 0, 2, 2, 1, 1}})
	same(t, 1, 2, []rows.Pass{{0, 0, 8, 8, 1, 1}, {0, 1, 1, 2, 1, 1}})
	same(t, 3, 1, []rows.Pass{{0, 0, 8, 8, 1, 1}, {2, 0, 4, 4, 1, 1}, {1, 0, 2, 2, 1, 1}})
	same(t, 1, 5, []rows.Pass{{0, 0, 8, 8, 1, 1}, {0, 4, 4, 8, 1, 1}, {0, 2, 2, 4, 1, 1}, {0, 1, 1, 2, 1, 2}})
	same(t, 5, 5, []rows.Pass{
		{0, 0, 8, 8, 1, 1}, {4, 0, 8, 8, 1, 1}, {0, 4, 4, 8, 2, 1}, {2, 0, 4, 4, 1, 2}, {0, 2, 2, 4, 3, 1}, {1, 0, 2, 2, 2, 3}, {0, 1, 1, 2, 5, 2},
	})
	same(t, 9, 17, []rows.Pass{
		{0, 0, 8, 8, 2, 3}, {4, 0, 8, 8, 1, 3}, {0, 4, 4, 8, 3, 2}, {2, 0, 4, 4, 2, 5}, {0, 2, 2, 4, 5, 4}, {1, 0, 2, 2, 4, 9}, {0, 1, 1, 2, 9, 8},
	})
	same(t, api.MaxImage, api.MaxImage, []rows.Pass{
		{0, 0, 8, 8, 32, 32}, {4, 0, 8, 8, 32, 32}, {0, 4, 4, 8, 64, 32}, {2, 0, 4, 4, 64, 64}, {0, 2, 2, 4, 128, 64}, {1, 0, 2, 2, 128, 128},
		{0, 1, 1, 2, 256, 128},
	})
}

// 10.1: each size up to 20 by 20, and some greater ones, by the lattice.
func TestPassesOfEachSize(t *testing.T) {
	for w := range 21 {
		for h := range 21 {
			same(t, w, h, wantPasses(w, h))
			onceEach(t, w, h, rows.Passes(w, h))
		}
	}
	for _, n := range []int{31, 32, 33, 100, 247, 248, 249, 252, 255, 256} {
		for _, m := range []int{1, 2, 3, 4, 5, 8, 9, 64, 255, 256} {
			for _, s := range [][2]int{{n, m}, {m, n}} {
				same(t, s[0], s[1], wantPasses(s[0], s[1]))
				onceEach(t, s[0], s[1], rows.Passes(s[0], s[1]))
			}
		}
	}
}

// 10.1: where there is no pixel there is no pass.
func TestNoPasses(t *testing.T) {
	for _, n := range []int{math.MinInt, -1 << 32, -257, -256, -8, -1, 0} {
		for _, m := range []int{math.MinInt, -1<<32 + 8, -9, -1, 0, 1, 8, 256, 257, 1 << 32, math.MaxInt} {
			same(t, n, m, nil)
			same(t, m, n, nil)
		}
	}
}

// 10.1: what is above MaxImage is MaxImage, each side by itself.
func TestGreatSizes(t *testing.T) {
	for _, n := range []int{257, 258, 264, 300, 512, 65536, 1<<32 + 1, math.MaxInt - 7, math.MaxInt} {
		for _, m := range []int{1, 2, 5, 8, 255, 256} {
			same(t, n, m, rows.Passes(256, m))
			same(t, m, n, rows.Passes(m, 256))
		}
		same(t, n, n, rows.Passes(256, 256))
		same(t, n, math.MaxInt, rows.Passes(256, 256))
		onceEach(t, 256, 256, rows.Passes(n, n))
		onceEach(t, 256, 3, rows.Passes(n, 3))
	}
}
