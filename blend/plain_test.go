package blend_test

import (
	"testing"

	"versal/api"
	"versal/blend"
)

// laid is two pixels and what a mode makes of them.
type laid struct {
	mode       int
	s, d, want api.Pixel
}

func checkLaid(t *testing.T, list []laid) {
	t.Helper()
	for _, c := range list {
		if got, ok := blend.Blend(c.mode, c.s, c.d); !ok || got != c.want {
			t.Errorf("13.1: mode %d (%s) of %v upon %v is %v, %v, want %v", c.mode, names[c.mode], c.s, c.d, got, ok, c.want)
		}
	}
}

// 13.1: there are 28 modes.
func TestModes(t *testing.T) {
	if blend.Modes != 28 || len(names) != blend.Modes {
		t.Errorf("13.1: %d modes", blend.Modes)
	}
	for mode := range blend.Modes {
		if _, ok := blend.Blend(mode, px(1, 2, 3, 4), px(5, 6, 7, 8)); !ok {
			t.Errorf("13.1: no mode %d", mode)
		}
	}
}

// 13.1: the chapter's example, and what is above 255: only plus has such sums.
func TestSumsAreAtMost255(t *testing.T) {
	checkLaid(t, []laid{
		{12, px(200, 0, 0, 200), px(100, 0, 0, 100), px(255, 0, 0, 255)},
		{12, px(200, 155, 156, 200), px(100, 100, 100, 100), px(255, 255, 255, 255)},
		{12, px(200, 155, 154, 200), px(55, 100, 100, 100), px(255, 255, 254, 255)},
		{12, px(100, 0, 9, 100), px(154, 0, 8, 154), px(254, 0, 17, 254)},
		{12, px(255, 255, 255, 255), px(255, 255, 255, 255), px(255, 255, 255, 255)},
		{12, px(0, 0, 0, 255), px(0, 0, 0, 1), px(0, 0, 0, 255)},
	})
}

// 13.1: modes 0 to 12 as they are written out, of two that are seen through:
// not(200) is 55, not(100) is 155.
func TestPlainModes(t *testing.T) {
	s, d := px(100, 0, 50, 200), px(30, 60, 90, 100)
	checkLaid(t, []laid{
		{0, s, d, px(0, 0, 0, 0)}, {1, s, d, s}, {2, s, d, d},
		{3, s, d, px(106, 13, 69, 222)}, {4, s, d, px(91, 60, 120, 222)},
		{5, s, d, px(39, 0, 20, 78)}, {6, s, d, px(24, 47, 71, 78)},
		{7, s, d, px(61, 0, 30, 122)}, {8, s, d, px(6, 13, 19, 22)},
		{9, s, d, px(45, 13, 39, 100)}, {10, s, d, px(85, 47, 101, 200)},
		{11, s, d, px(67, 13, 49, 144)}, {12, s, d, px(130, 60, 140, 255)},
	})
}

// 13.1: modes 0 to 12 where one side is opaque, or is nothing.
func TestPlainModesAtTheEnds(t *testing.T) {
	zero := px(0, 0, 0, 0)
	// What each mode leaves where both are opaque, only s is, only d is: of s, of
	// d, of nothing.
	leaves := [13]string{"000", "ss0", "d0d", "ssd", "dsd", "s00", "d00", "0s0", "00d", "s0d", "ds0", "0sd"}
	s, d := px(200, 0, 100, 255), px(30, 60, 255, 255)
	of := map[byte]api.Pixel{'0': zero, 's': s, 'd': d}
	for mode, left := range leaves[:12] {
		checkLaid(t, []laid{
			{mode, s, d, of[left[0]]}, {mode, s, zero, of[left[1]]}, {mode, zero, d, of[left[2]]}, {mode, zero, zero, zero},
		})
	}
	checkLaid(t, []laid{{12, s, d, px(230, 60, 255, 255)}, {12, s, zero, s}, {12, zero, d, d}, {12, zero, zero, zero}})
}

// 13.1: each mode with each alpha above and each alpha below.
func TestEveryPairOfAlphas(t *testing.T) {
	for mode := range blend.Modes {
		for a := range 256 {
			for b := range 256 {
				s := px(a, (a*3+b)%(a+1), (b*7+mode)%(a+1), a)
				check(t, mode, s, px((a*5+b*2)%(b+1), b, (a+mode)%(b+1), b))
			}
		}
	}
}

// 13.1: each mode of many pairs of premultiplied pixels.
func TestManyPairs(t *testing.T) {
	few := append([]api.Pixel{px(0, 0, 0, 0), px(255, 255, 255, 255), px(0, 0, 0, 255), px(1, 2, 3, 4), px(128, 0, 127, 128), px(0, 254, 1, 254)}, spread(9)...)
	list := spread(260)
	for mode := range blend.Modes {
		for _, p := range edges() {
			for _, q := range few {
				check(t, mode, p, q)
				check(t, mode, q, p)
			}
		}
		for _, p := range list[:90] {
			for _, q := range list {
				check(t, mode, p, q)
			}
		}
	}
}
