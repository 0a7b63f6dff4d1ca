package blend_test

import (
	"testing"

	"versal/blend"
)

// 13.2: hue, saturation, color and luminosity as they are written out.
func TestModesThatAskAllThree(t *testing.T) {
	// Lum: s 119, d (1500 + 8850 + 2750) / 100, 131; Sat 200 each.
	s, d := opaque(200, 100, 0), opaque(50, 150, 250)
	gray := opaque(80, 80, 80)
	checkLaid(t, []laid{
		{24, s, d, opaque(212, 112, 12)}, {25, s, d, opaque(50, 150, 250)},
		{26, s, d, opaque(212, 112, 12)}, {27, s, d, opaque(38, 138, 238)},
		// Of gray the Sat is 0: all is gray.
		{24, gray, d, opaque(131, 131, 131)}, {25, gray, d, opaque(131, 131, 131)},
		{26, gray, d, opaque(131, 131, 131)},
		{24, d, gray, opaque(80, 80, 80)}, {25, d, gray, opaque(80, 80, 80)},
		{27, d, gray, opaque(131, 131, 131)},
		// 51 less: -1 99 199: 80 and 19 * 80 / 81, 119 * 80 / 81.
		{26, d, gray, opaque(0, 98, 197)}, {27, gray, d, opaque(0, 98, 197)},
	})
}

// 13.2: Lit where the least is below 0, where the greatest is above 255, of black
// and of white.
func TestLitThroughColor(t *testing.T) {
	s := opaque(200, 100, 0)
	checkLaid(t, []laid{
		{26, s, opaque(255, 255, 255), opaque(255, 255, 255)}, {26, s, opaque(0, 0, 0), opaque(0, 0, 0)},
		// Lum 76, 24 more: 279 24 24; 100 less 76 * 155 / 179, 65 and a rest, that
		// is floored below 0.
		{26, opaque(255, 0, 0), opaque(100, 100, 100), opaque(255, 34, 34)},
		// Lum 28, 18 less: -18 -18 237; 10 and 227 * 10 / 28, 81 and a rest.
		{26, opaque(0, 0, 255), opaque(10, 10, 10), opaque(0, 0, 91)},
		// Lum 28, 1 less: -1 -1 254; 27 and 227 * 27 / 28, 218 and a rest.
		{26, opaque(0, 0, 255), opaque(27, 27, 27), opaque(0, 0, 245)},
		// Lum 28, the same: nothing is below 0.
		{26, opaque(0, 0, 255), opaque(28, 28, 28), opaque(0, 0, 255)},
		// Lum 28, 1 more: 1 1 256: 29 and 227 * 226 / 227; less 28 * 226 / 227, 27
		// and a rest.
		{26, opaque(0, 0, 255), opaque(29, 29, 29), opaque(1, 1, 255)},
	})
}

// 13.2: Lum is 30, 59 and 11 of 100, floored; luminosity of a gray shows it.
func TestLumThroughLuminosity(t *testing.T) {
	gray := opaque(128, 128, 128)
	for _, c := range []struct{ r, g, b, lum int }{
		{255, 0, 0, 76}, {0, 255, 0, 150}, {0, 0, 255, 28}, {255, 255, 255, 255}, {0, 0, 0, 0},
		{1, 1, 0, 0}, {1, 1, 1, 1}, {0, 1, 3, 0}, {1, 0, 6, 0}, {1, 0, 7, 1}, {254, 255, 255, 254}, {255, 255, 254, 254},
	} {
		checkLaid(t, []laid{{27, opaque(c.r, c.g, c.b), gray, opaque(c.lum, c.lum, c.lum)}})
	}
}

// 13.2: modes 24 to 27 of each colour of a grid upon each other one.
func TestEveryPairOfTheGrid(t *testing.T) {
	grid := []int{0, 1, 60, 128, 254, 255}
	for mode := 24; mode < blend.Modes; mode++ {
		for k := range 6 * 6 * 6 * 6 * 6 * 6 {
			var at [6]int
			for place := range at {
				at[place], k = grid[k%6], k/6
			}
			check(t, mode, opaque(at[0], at[1], at[2]), opaque(at[3], at[4], at[5]))
		}
	}
}

// 13.2: modes 24 to 27 of many colours.
func TestManyColoursAtOnce(t *testing.T) {
	list := spread(2400)
	for mode := 24; mode < blend.Modes; mode++ {
		for k, p := range list {
			for step := range 12 {
				q := list[(k*7+step*191)%len(list)]
				check(t, mode, p, q)
				p.A, q.A = 255, 255
				check(t, mode, p, q)
			}
		}
	}
}
