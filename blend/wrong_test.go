package blend_test

import (
	"math"
	"testing"

	"versal/api"
	"versal/blend"
)

// checkRefused tells of a call that is not the zero pixel and false.
func checkRefused(t *testing.T, mode int, s, d api.Pixel) {
	t.Helper()
	if got, ok := blend.Blend(mode, s, d); ok || got != (api.Pixel{}) {
		t.Errorf("13.1: mode %d of %v upon %v is %v, %v", mode, s, d, got, ok)
	}
}

// partners answers premultiplied pixels that stand beside a wrong one.
func partners() []api.Pixel {
	return append([]api.Pixel{px(0, 0, 0, 0), px(255, 255, 255, 255), px(200, 100, 50, 255), px(1, 2, 3, 4)}, spread(4)...)
}

// 13.1: a mode that is none, those among them that are one in their lower bits.
func TestModeIsNone(t *testing.T) {
	for _, mode := range append(beyond(), -28, -27, -13, 28, 29, 31, 32, 60, 255, 1<<8+3, 1<<16+12, 1<<32+1, math.MinInt+5, math.MinInt, math.MaxInt) {
		for _, p := range partners() {
			for _, q := range partners() {
				checkRefused(t, mode, p, q)
			}
		}
		checkRefused(t, mode, px(256, 0, 0, 256), px(9, 0, 0, 8))
	}
}

// 13.1: a pixel that is not right, above or below or both, by each mode.
func TestPixelIsNotRight(t *testing.T) {
	for _, n := range beyond() {
		for k := range 4 {
			for at, p := range []api.Pixel{px(0, 0, 0, 0), px(10, 20, 30, 40), px(255, 255, 255, 255)} {
				p = put(p, k, n)
				for mode := range blend.Modes {
					for _, q := range partners() {
						checkRefused(t, mode, p, q)
						checkRefused(t, mode, q, p)
					}
					checkRefused(t, mode, p, p)
					checkRefused(t, mode, put(p, at, n), put(px(0, 0, 0, 0), k, -1))
				}
			}
		}
	}
	for mode := range blend.Modes {
		// No colour is above the alpha, but a number is none.
		for _, p := range []api.Pixel{px(256, 256, 256, 256), px(0, 0, 0, 256), px(-1, -1, -1, -1), px(-1, 0, 0, 0), px(0, 0, -9, 255)} {
			checkRefused(t, mode, p, px(1, 2, 3, 4))
			checkRefused(t, mode, px(1, 2, 3, 4), p)
		}
	}
}

// 13.1: a colour that is above its alpha, by one and by much, in each place, above
// or below; as great as its alpha it is taken.
func TestColourIsAboveItsAlpha(t *testing.T) {
	for mode := range blend.Modes {
		for a := range 256 {
			fine := px(a, a, a, a)
			if _, ok := blend.Blend(mode, fine, fine); !ok {
				t.Errorf("13.1: mode %d takes no %v", mode, fine)
			}
			for k := range 3 {
				for _, n := range []int{a + 1, (a + 256) / 2, 255} {
					if n <= a {
						continue
					}
					for _, p := range []api.Pixel{put(fine, k, n), put(px(0, 0, 0, a), k, n)} {
						checkRefused(t, mode, p, px(1, 2, 3, 4))
						checkRefused(t, mode, px(1, 2, 3, 4), p)
						checkRefused(t, mode, p, p)
					}
				}
			}
		}
	}
}
