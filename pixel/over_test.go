package pixel_test

import (
	"math"
	"testing"

	"versal/api"
	"versal/pixel"
)

// pairs calls f with each edge beside each of a few, and with pairs of all kinds.
func pairs(f func(a, b api.Pixel)) {
	few := append([]api.Pixel{px(0, 0, 0, 0), px(255, 255, 255, 255), px(1, 2, 3, 4), px(250, 0, 127, 128)}, spread(20)...)
	for _, p := range edges() {
		for _, q := range few {
			f(p, q)
			f(q, p)
		}
	}
	list := spread(400)
	for _, p := range list[:150] {
		for _, q := range list {
			f(p, q)
		}
	}
}

// 12.1: Scale, as it is written out: by all, by nothing, by a half, by numbers
// that are brought within 0 to 255.
func TestScale(t *testing.T) {
	for _, c := range []struct {
		p    api.Pixel
		n    int
		want api.Pixel
	}{
		{px(200, 100, 50, 255), 128, px(100, 50, 25, 128)},
		{px(1, 2, 3, 4), 255, px(1, 2, 3, 4)}, {px(1, 2, 3, 4), 0, px(0, 0, 0, 0)}, {px(255, 255, 255, 255), 1, px(1, 1, 1, 1)},
		{px(127, 128, 254, 255), 1, px(0, 1, 1, 1)}, {px(0, 1, 2, 3), 127, px(0, 0, 1, 1)}, {px(0, 1, 2, 3), 128, px(0, 1, 1, 2)},
		{px(1, 2, 3, 4), 256, px(1, 2, 3, 4)}, {px(1, 2, 3, 4), 999, px(1, 2, 3, 4)}, {px(1, 2, 3, 4), math.MaxInt, px(1, 2, 3, 4)},
		{px(255, 9, 8, 255), -1, px(0, 0, 0, 0)}, {px(255, 9, 8, 255), -256, px(0, 0, 0, 0)}, {px(255, 9, 8, 255), math.MinInt, px(0, 0, 0, 0)},
		// Straight pixels are scaled as premultiplied ones are.
		{px(255, 0, 0, 0), 51, px(51, 0, 0, 0)},
	} {
		if got := pixel.Scale(c.p, c.n); got != c.want {
			t.Errorf("12.1: Scale(%v, %d) is %v, want %v", c.p, c.n, got, c.want)
		}
	}
}

// 12.1: Scale of many pixels by each number, and by those beyond.
func TestScaleOfMany(t *testing.T) {
	for _, p := range append(edges(), spread(200)...) {
		for n := -3; n <= 259; n++ {
			if got, want := pixel.Scale(p, n), wantScale(p, n); got != want {
				t.Fatalf("12.1: Scale(%v, %d) is %v, want %v", p, n, got, want)
			}
		}
		for _, n := range beyond() {
			if got, want := pixel.Scale(p, n), wantScale(p, n); got != want {
				t.Fatalf("12.1: Scale(%v, %d) is %v, want %v", p, n, got, want)
			}
		}
	}
}

// 12.1: Over, as it is written out: behind one that is not seen through, behind
// one that isn't there, about the halves, and sums above 255.
func TestOver(t *testing.T) {
	for _, c := range []struct{ s, d, want api.Pixel }{
		{px(10, 20, 30, 255), px(1, 2, 3, 4), px(10, 20, 30, 255)}, {px(0, 0, 0, 255), px(255, 255, 255, 255), px(0, 0, 0, 255)},
		{px(0, 0, 0, 0), px(1, 2, 3, 4), px(1, 2, 3, 4)}, {px(1, 2, 3, 4), px(0, 0, 0, 0), px(1, 2, 3, 4)}, {px(0, 0, 0, 0), px(0, 0, 0, 0), px(0, 0, 0, 0)},
		{px(100, 0, 50, 128), px(200, 100, 0, 255), px(200, 50, 50, 255)},
		{px(1, 2, 3, 254), px(127, 128, 255, 255), px(1, 3, 4, 255)},
		{px(10, 10, 10, 10), px(10, 10, 10, 10), px(20, 20, 20, 20)},
		// Sums of 255, of 256, of 510; of colours above their alpha too.
		{px(155, 0, 0, 0), px(100, 0, 0, 0), px(255, 0, 0, 0)}, {px(156, 0, 0, 0), px(100, 0, 0, 0), px(255, 0, 0, 0)},
		{px(255, 255, 255, 0), px(255, 254, 1, 0), px(255, 255, 255, 0)}, {px(0, 200, 0, 55), px(0, 200, 200, 255), px(0, 255, 157, 255)},
	} {
		if got := pixel.Over(c.s, c.d); got != c.want {
			t.Errorf("12.1: Over(%v, %v) is %v, want %v", c.s, c.d, got, c.want)
		}
	}
}

// 12.1: Over of many pairs, each of both above the other.
func TestOverOfMany(t *testing.T) {
	pairs(func(s, d api.Pixel) {
		if got, want := pixel.Over(s, d), wantOver(s, d); got != want {
			t.Fatalf("12.1: Over(%v, %v) is %v, want %v", s, d, got, want)
		}
	})
	for a := range 256 {
		for n := range 256 {
			s, d := px(n, 255-n, 40, a), px(a, n, 255, 255-n)
			if got, want := pixel.Over(s, d), wantOver(s, d); got != want {
				t.Fatalf("12.1: Over(%v, %v) is %v, want %v", s, d, got, want)
			}
		}
	}
}

// 12.1: Mix, as it is written out: at both ends, half way, beyond both ends, and
// at the last t of one number and the first of the next.
func TestMix(t *testing.T) {
	a, b := px(0, 10, 255, 255), px(255, 20, 0, 255)
	for _, c := range []struct {
		t    int
		want api.Pixel
	}{
		{0, a}, {65536, b}, {32768, px(128, 15, 128, 255)}, {16384, px(64, 13, 191, 255)}, {49152, px(191, 18, 64, 255)},
		{1, a}, {65535, b}, {-1, a}, {-9, a}, {-65536, a}, {math.MinInt, a}, {65537, b}, {131072, b}, {1 << 40, b}, {math.MaxInt, b},
		// 127 and a half goes up, of 0 to 255 as of 255 to 0.
		{32767, px(127, 15, 128, 255)}, {32769, px(128, 15, 127, 255)},
		// 255 times 128 is below the half of 65536, 255 times 129 above it.
		{128, px(0, 10, 255, 255)}, {129, px(1, 10, 254, 255)}, {3276, px(13, 10, 242, 255)}, {3277, px(13, 11, 242, 255)},
	} {
		if got := pixel.Mix(a, b, c.t); got != c.want {
			t.Errorf("12.1: Mix at %d is %v, want %v", c.t, got, c.want)
		}
	}
	// Between 0 and 1 it turns at the half.
	for _, c := range []struct{ t, up, down int }{{0, 0, 1}, {32767, 0, 1}, {32768, 1, 1}, {32769, 1, 0}, {65536, 1, 0}} {
		if got := pixel.Mix(px(0, 1, 0, 1), px(1, 0, 1, 0), c.t); got != px(c.up, c.down, c.up, c.down) {
			t.Errorf("12.1: Mix at %d is %v", c.t, got)
		}
	}
}

// ways answers places between two pixels, at and beyond their ends.
func ways() []int {
	return []int{
		math.MinInt, math.MinInt + 1, -1 << 32, -65536, -1, 0, 1, 2, 127, 128, 129, 257, 16384, 21845, 21846, 32767, 32768, 32769,
		43690, 49152, 65407, 65408, 65534, 65535, 65536, 65537, 98304, 131072, 1 << 32, 1<<32 + 32768, 1 << 62, math.MaxInt,
	}
}

// 12.1: Mix of many pairs, at and beyond both ends.
func TestMixOfMany(t *testing.T) {
	list := append(edges()[100:400], spread(100)...)
	for k, a := range list {
		b := list[(k*131+7)%len(list)]
		for _, at := range ways() {
			if got, want := pixel.Mix(a, b, at), wantMix(a, b, at); got != want {
				t.Fatalf("12.1: Mix(%v, %v, %d) is %v, want %v", a, b, at, got, want)
			}
		}
	}
	for at := -70; at <= 65606; at += 7 {
		a, b := px(0, 255, at&255, 9), px(255, 0, 33, at>>8&255)
		if got, want := pixel.Mix(a, b, at), wantMix(a, b, at); got != want {
			t.Fatalf("12.1: Mix(%v, %v, %d) is %v, want %v", a, b, at, got, want)
		}
	}
}

// 12.1: Mix of every two numbers, half way and where t is a third.
func TestMixOfEveryTwo(t *testing.T) {
	for n := range 256 {
		for m := range 256 {
			a, b := px(n, m, 255-n, m), px(m, n, m, 255-n)
			for _, at := range []int{21845, 32767, 32768, 50000} {
				if got, want := pixel.Mix(a, b, at), wantMix(a, b, at); got != want {
					t.Fatalf("12.1: Mix(%v, %v, %d) is %v, want %v", a, b, at, got, want)
				}
			}
		}
	}
}

// 12.1: what comes of premultiplied pixels is premultiplied, as no floor and no
// lesser turns which of two numbers is the greater.
func TestPremultipliedStays(t *testing.T) {
	pairs(func(p, q api.Pixel) {
		p, q = pixel.Pre(p), pixel.Pre(q)
		for _, got := range []api.Pixel{pixel.Over(p, q), pixel.Scale(p, q.A), pixel.Mix(p, q, q.R*257)} {
			if !pixel.Premultiplied(got) {
				t.Fatalf("12.1: %v comes of %v and %v", got, p, q)
			}
		}
	})
}
