package pixel_test

import (
	"testing"

	"versal/api"
	"versal/pixel"
)

// turned is a pixel that is handed in, and what comes of it.
type turned struct{ p, want api.Pixel }

func checkTurned(t *testing.T, name string, call func(api.Pixel) api.Pixel, list []turned) {
	t.Helper()
	for _, c := range list {
		if got := call(c.p); got != c.want {
			t.Errorf("12.1: %s(%v) is %v, want %v", name, c.p, got, c.want)
		}
	}
}

// 12.1: Right: each number, in each place, 0 and 255 included.
func TestRight(t *testing.T) {
	for _, p := range append(edges(), spread(1000)...) {
		if !pixel.Right(p) {
			t.Errorf("12.1: Right(%v) is false", p)
		}
	}
	for k, place := range places {
		for n := -600; n <= 600; n++ {
			p := put(px(9, 8, 7, 6), k, n)
			if got := pixel.Right(p); got != (n >= 0 && n <= 255) {
				t.Errorf("12.1: Right is %v, of %d for %s", got, n, place)
			}
		}
	}
}

// 12.1: Premultiplied: none of the three colours is above the alpha, one that is
// as great is taken.
func TestPremultiplied(t *testing.T) {
	for _, p := range append(edges(), spread(3000)...) {
		if got := pixel.Premultiplied(p); got != wantPremultiplied(p) {
			t.Errorf("12.1: Premultiplied(%v) is %v", p, got)
		}
	}
	for a := range 256 {
		for c := range 256 {
			for k := range 3 {
				if got := pixel.Premultiplied(put(px(0, 0, 0, a), k, c)); got != (c <= a) {
					t.Errorf("12.1: Premultiplied is %v, of %d for %s and an alpha of %d", got, c, places[k], a)
				}
				if got := pixel.Premultiplied(put(px(a, a, a, a), k, c)); got != (c <= a) {
					t.Errorf("12.1: Premultiplied is %v, of %d for %s and else %d", got, c, places[k], a)
				}
			}
		}
	}
}

// 12.1: Pre, as it is written out: the chapter's example, alphas of 0 and of 255,
// about the halves.
func TestPre(t *testing.T) {
	checkTurned(t, "Pre", pixel.Pre, []turned{
		{px(255, 0, 100, 128), px(128, 0, 50, 128)},
		{px(0, 0, 0, 0), px(0, 0, 0, 0)}, {px(255, 1, 128, 0), px(0, 0, 0, 0)},
		{px(1, 2, 3, 255), px(1, 2, 3, 255)}, {px(255, 255, 255, 255), px(255, 255, 255, 255)},
		{px(127, 128, 255, 1), px(0, 1, 1, 1)}, {px(200, 100, 50, 10), px(8, 4, 2, 10)}, {px(1, 2, 3, 4), px(0, 0, 0, 4)},
		{px(1, 2, 3, 127), px(0, 1, 1, 127)}, {px(1, 2, 3, 128), px(1, 1, 2, 128)},
	})
}

// 12.1: Bare, as it is written out: an alpha of 0, of 255, an odd one (its half is
// floored), an even one (a half goes up), colours above their alpha.
func TestBare(t *testing.T) {
	checkTurned(t, "Bare", pixel.Bare, []turned{
		{px(0, 0, 0, 0), px(0, 0, 0, 0)}, {px(255, 1, 128, 0), px(0, 0, 0, 0)},
		{px(1, 2, 3, 255), px(1, 2, 3, 255)}, {px(255, 0, 254, 255), px(255, 0, 254, 255)},
		{px(128, 0, 50, 128), px(255, 0, 100, 128)},
		{px(0, 1, 2, 1), px(0, 255, 255, 1)},
		// 127 and a half goes up.
		{px(0, 1, 2, 2), px(0, 128, 255, 2)},
		{px(1, 2, 3, 3), px(85, 170, 255, 3)}, {px(1, 2, 3, 4), px(64, 128, 191, 4)},
		// 36 3/7, 72 6/7 and 109 2/7, by a half that is 3.
		{px(1, 2, 3, 7), px(36, 73, 109, 7)},
		// 1275 and 127 of 254 are 5 and 132 of 254, which is not 6.
		{px(5, 126, 127, 254), px(5, 126, 128, 254)},
		// Above the alpha, by one and by much.
		{px(11, 10, 9, 10), px(255, 255, 230, 10)}, {px(200, 100, 50, 10), px(255, 255, 255, 10)},
		{px(255, 255, 255, 1), px(255, 255, 255, 1)}, {px(255, 255, 254, 254), px(255, 255, 255, 254)},
		{px(255, 0, 100, 128), px(255, 0, 199, 128)},
	})
}

// 12.1: Pre and Bare of each colour with each alpha, in each of the three places.
func TestPreAndBareOfEveryColour(t *testing.T) {
	for a := range 256 {
		for c := range 256 {
			p := px(c, 255-c, (c*7+a)%256, a)
			if got, want := pixel.Pre(p), wantPre(p); got != want {
				t.Fatalf("12.1: Pre(%v) is %v, want %v", p, got, want)
			}
			if got, want := pixel.Bare(p), wantBare(p); got != want {
				t.Fatalf("12.1: Bare(%v) is %v, want %v", p, got, want)
			}
			q := px((c+a)%256, c, 255-a, a)
			if pixel.Pre(q) != wantPre(q) || pixel.Bare(q) != wantBare(q) {
				t.Fatalf("12.1: %v is %v and %v", q, pixel.Pre(q), pixel.Bare(q))
			}
		}
	}
	for _, p := range append(edges(), spread(5000)...) {
		if pixel.Pre(p) != wantPre(p) || pixel.Bare(p) != wantBare(p) {
			t.Fatalf("12.1: %v is %v and %v", p, pixel.Pre(p), pixel.Bare(p))
		}
	}
}

// 12.1: what Pre answers is premultiplied, and a premultiplied pixel is that which
// comes of it when it is bared.
func TestThereAndBack(t *testing.T) {
	for a := range 256 {
		for c := range a + 1 {
			p := px(c, a-c, a, a)
			if got := pixel.Pre(pixel.Bare(p)); got != p {
				t.Errorf("12.1: %v comes back as %v", p, got)
			}
		}
	}
	for _, p := range append(edges(), spread(5000)...) {
		if got := pixel.Pre(p); !pixel.Premultiplied(got) || got.A != p.A {
			t.Errorf("12.1: Pre(%v) is %v", p, got)
		}
		if got := pixel.Bare(p); !pixel.Right(got) || got.A != p.A {
			t.Errorf("12.1: Bare(%v) is %v", p, got)
		}
	}
}
