package blend_test

import (
	"testing"

	"versal/api"
	"versal/blend"
	"versal/pixel"
)

// opaque answers an opaque pixel.
func opaque(r, g, b int) api.Pixel { return px(r, g, b, 255) }

// 13.1: modes 13 to 23 as they are written out, of two that are opaque.
func TestModesThatAskEachAlone(t *testing.T) {
	s, d := opaque(200, 100, 0), opaque(50, 150, 255)
	checkLaid(t, []laid{
		// not(55 * 205), not(155 * 105), not(255 * 0).
		{13, s, d, opaque(211, 191, 255)},
		// (2 50) * 200; the screen of 45 and 100; that of 255 and 0.
		{14, s, d, opaque(78, 127, 255)},
		{15, s, d, opaque(50, 100, 0)}, {16, s, d, opaque(200, 150, 255)},
		// 12750 / 55, 38250 / 155, 65025 / 255.
		{17, s, d, opaque(231, 246, 255)},
		// 255 less 255 of 52275 / 200, 255 less 255 of 26775 / 100, b of 255.
		{18, s, d, opaque(0, 0, 255)},
		// The screen of 145 and 50; (2 100) * 150; 0 * 255.
		{19, s, d, opaque(167, 118, 0)},
		{20, s, d, opaque(73, 136, 255)}, {21, s, d, opaque(150, 50, 255)},
		{22, s, d, opaque(172, 132, 255)}, {23, s, d, opaque(39, 59, 0)},
	})
}

// 13.1: color dodge where b is 0, where c is 255, where both hold, next to them,
// and where the quotient is above 255 or has a rest.
func TestColorDodge(t *testing.T) {
	checkLaid(t, []laid{
		{17, opaque(0, 100, 254), opaque(0, 0, 0), opaque(0, 0, 0)},
		{17, opaque(255, 255, 255), opaque(1, 254, 255), opaque(255, 255, 255)},
		{17, opaque(255, 255, 254), opaque(0, 1, 0), opaque(0, 255, 0)},
		// 255 by 1, 255 by 2, 510 by 255.
		{17, opaque(254, 253, 0), opaque(1, 1, 2), opaque(255, 127, 2)},
		// 25500 by 154 is 165 90/154; Part would say otherwise. 254 by 255 of 255.
		{17, opaque(101, 0, 1), opaque(100, 254, 254), opaque(165, 254, 255)},
		{17, opaque(128, 127, 128), opaque(127, 128, 126), opaque(255, 255, 252)},
	})
}

// 13.1: color burn where b is 255, where c is 0, where both hold, next to them,
// and where the quotient is above 255 or has a rest.
func TestColorBurn(t *testing.T) {
	checkLaid(t, []laid{
		{18, opaque(1, 100, 255), opaque(255, 255, 255), opaque(255, 255, 255)},
		{18, opaque(0, 0, 0), opaque(254, 1, 0), opaque(0, 0, 0)},
		{18, opaque(0, 0, 1), opaque(255, 254, 255), opaque(255, 0, 255)},
		// 255 less 255 by 1; less 127; less 253.
		{18, opaque(1, 2, 255), opaque(254, 254, 2), opaque(0, 128, 2)},
		// 255 less 165; 25500 by 100 is just 255, 25755 by 100 above it.
		{18, opaque(154, 100, 100), opaque(155, 155, 154), opaque(90, 0, 0)},
		{18, opaque(101, 255, 128), opaque(155, 0, 128), opaque(3, 0, 2)},
	})
}

// 13.1: hard light at c of 127 and of 128, overlay at b of 127 and of 128.
func TestHardLightAndOverlay(t *testing.T) {
	// 254 * 100; the screen of 1 and 100; both with 200 and with 255.
	checkLaid(t, []laid{
		{19, opaque(127, 128, 0), opaque(100, 100, 100), opaque(100, 101, 0)},
		{19, opaque(127, 128, 255), opaque(200, 200, 200), opaque(199, 200, 255)},
		{19, opaque(127, 128, 255), opaque(255, 255, 0), opaque(254, 255, 255)},
		{14, opaque(100, 100, 100), opaque(127, 128, 0), opaque(100, 101, 0)},
		{14, opaque(200, 200, 200), opaque(127, 128, 255), opaque(199, 200, 255)},
		{14, opaque(255, 255, 0), opaque(127, 128, 255), opaque(254, 255, 255)},
	})
	list := spread(300)
	for k, p := range list {
		q := list[(k*7+3)%len(list)]
		p.A, q.A = 255, 255
		one, _ := blend.Blend(14, p, q)
		other, _ := blend.Blend(19, q, p)
		if one != other {
			t.Errorf("13.1: overlay of %v upon %v is %v, hard light changed about %v", p, q, one, other)
		}
	}
}

// 13.1: soft light, exclusion, difference where c and b are least, greatest and
// next to these.
func TestAloneAtTheEnds(t *testing.T) {
	checkLaid(t, []laid{
		{20, opaque(0, 255, 128), opaque(255, 255, 255), opaque(255, 255, 255)},
		{20, opaque(0, 255, 128), opaque(0, 0, 0), opaque(0, 0, 0)},
		// 128 * 128 is 64, the screen of it 192: by not(c), by c, by both.
		{20, opaque(0, 255, 128), opaque(128, 128, 128), opaque(64, 192, 128)},
		{20, opaque(1, 127, 254), opaque(254, 254, 254), opaque(253, 254, 255)},
		{22, opaque(255, 255, 0), opaque(255, 0, 255), opaque(0, 255, 255)},
		{22, opaque(254, 254, 1), opaque(254, 255, 1), opaque(2, 1, 2)},
		// 1 * 128 is 1, 1 * 127 is 0: two times that.
		{22, opaque(1, 1, 128), opaque(128, 127, 128), opaque(127, 128, 128)},
		{21, opaque(255, 0, 9), opaque(0, 255, 9), opaque(255, 255, 0)},
		{21, opaque(10, 9, 8), opaque(8, 9, 10), opaque(2, 0, 2)},
		{15, opaque(10, 9, 8), opaque(8, 9, 10), opaque(8, 9, 8)},
		{16, opaque(10, 9, 8), opaque(8, 9, 10), opaque(10, 9, 10)},
		{13, opaque(255, 0, 128), opaque(7, 7, 128), opaque(255, 7, 192)},
		{23, opaque(255, 0, 128), opaque(7, 7, 128), opaque(7, 0, 64)},
	})
}

// 13.1: modes 13 to 23 of each c and each b, in each of the three places.
func TestEveryPairOfColours(t *testing.T) {
	for mode := 13; mode <= 23; mode++ {
		for c := range 256 {
			for b := range 256 {
				got, ok := blend.Blend(mode, opaque(c, b, 255-c), opaque(b, c, b))
				wanted := opaque(wantAlone(names[mode], c, b), wantAlone(names[mode], b, c), wantAlone(names[mode], 255-c, b))
				if !ok || got != wanted {
					t.Fatalf("13.1: mode %d (%s) of %d and %d is %v, %v, want %v", mode, names[mode], c, b, got, ok, wanted)
				}
			}
		}
	}
}

// 13.1: of two that are seen through: each alone where the other one is not, and
// B of the bare colours where both are.
func TestSeenThrough(t *testing.T) {
	// not(100) is 155, not(200) 55; the alpha 100 and 122; s.A * d.A is 78. s * 55
	// is 22 11 0, d * 155 is 36 73 122; bare they are 255 128 0 and 77 153 255.
	s, d := px(100, 50, 0, 100), px(60, 120, 200, 200)
	checkLaid(t, []laid{
		// B 255 204 255: 78 62 78.
		{13, s, d, px(136, 146, 200, 222)},
		// B 77 77 0: 24 24 0.
		{23, s, d, px(82, 108, 122, 222)},
		// B 77 128 0: 24 39 0, and 255 153 255: 78 47 78.
		{15, s, d, px(82, 123, 122, 222)}, {16, s, d, px(136, 131, 200, 222)},
		// B 178 25 255: 54 8 78.
		{21, s, d, px(112, 92, 200, 222)},
	})
	for mode := 13; mode < blend.Modes; mode++ {
		zero := px(0, 0, 0, 0)
		checkLaid(t, []laid{{mode, zero, d, d}, {mode, s, zero, s}, {mode, zero, zero, zero}})
		// Alphas that meet in nothing, as their Part is 0, leave both apart.
		checkLaid(t, []laid{{mode, px(1, 0, 1, 1), px(0, 1, 1, 1), px(1, 1, 2, 2)}})
	}
}

// 13.1: the lesser of the alpha and the sum: of white upon white the sum of three
// Parts is at its greatest, and comes to just the alpha.
func TestLesserOfTheAlpha(t *testing.T) {
	for a := range 256 {
		for b := range 256 {
			alpha := a + parts[b][255-a]
			if sum := parts[a][255-b] + parts[b][255-a] + parts[a][b]; sum != alpha {
				t.Errorf("13.1: the sum of %d and %d is %d beside %d", a, b, sum, alpha)
			}
			for _, mode := range []int{13, 14, 15, 16, 17, 18, 19, 20, 23, 24, 25, 26, 27} {
				checkLaid(t, []laid{{mode, px(a, a, a, a), px(b, b, b, b), px(alpha, alpha, alpha, alpha)}})
			}
			// No B is left of white and white.
			apart := parts[a][255-b] + parts[b][255-a]
			for _, mode := range []int{21, 22} {
				checkLaid(t, []laid{{mode, px(a, a, a, a), px(b, b, b, b), px(apart, apart, apart, alpha)}})
			}
		}
	}
}

// 13.1: soft light and exclusion are brought to an end each: no pair is beyond
// it, the ends themselves are reached.
func TestEndsOfSoftLightAndExclusion(t *testing.T) {
	for _, mode := range []int{20, 22} {
		seen := [256]int{}
		for c := range 256 {
			for b := range 256 {
				got, ok := blend.Blend(mode, opaque(c, c, c), opaque(b, b, b))
				if !ok || !pixel.Right(got) || got.R != got.G || got.R != got.B {
					t.Fatalf("13.1: mode %d of %d and %d is %v, %v", mode, c, b, got, ok)
				}
				seen[got.R]++
			}
		}
		if seen[0] == 0 || seen[255] == 0 {
			t.Errorf("13.1: mode %d reaches 0 %d times, 255 %d times", mode, seen[0], seen[255])
		}
	}
}
