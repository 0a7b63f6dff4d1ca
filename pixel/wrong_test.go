package pixel_test

import (
	"bytes"
	"testing"

	"versal/api"
	"versal/pixel"
)

// partners answers right pixels that stand beside one that is not.
func partners() []api.Pixel {
	return append([]api.Pixel{px(0, 0, 0, 0), px(255, 255, 255, 255), px(200, 100, 50, 255), px(1, 2, 3, 4), px(255, 0, 9, 0)}, spread(6)...)
}

// 12.1: a pixel that is not right is told, also where no colour is above its alpha.
func TestWrongIsTold(t *testing.T) {
	for _, p := range wrong() {
		if pixel.Right(p) || pixel.Premultiplied(p) {
			t.Errorf("12.1: %v is %v and %v", p, pixel.Right(p), pixel.Premultiplied(p))
		}
	}
}

// 12.1: a pixel that is not right counts as the zero one, by itself.
func TestWrongAlone(t *testing.T) {
	zero := px(0, 0, 0, 0)
	for _, p := range wrong() {
		if pixel.Pre(p) != zero || pixel.Bare(p) != zero {
			t.Errorf("12.1: %v is %v and %v", p, pixel.Pre(p), pixel.Bare(p))
		}
		for _, n := range append([]int{0, 1, 128, 255}, beyond()...) {
			if got := pixel.Scale(p, n); got != zero {
				t.Errorf("12.1: Scale(%v, %d) is %v", p, n, got)
			}
		}
	}
}

// 12.1: a pixel that is not right counts as the zero one beside a right one: above
// it and below it, ahead of it and behind it.
func TestWrongBesideRight(t *testing.T) {
	zero := px(0, 0, 0, 0)
	for _, p := range wrong() {
		for _, q := range partners() {
			if pixel.Over(p, q) != q || pixel.Over(q, p) != q {
				t.Errorf("12.1: Over of %v and %v is %v and %v", p, q, pixel.Over(p, q), pixel.Over(q, p))
			}
			for _, at := range ways() {
				if got, want := pixel.Mix(p, q, at), wantMix(zero, q, at); got != want {
					t.Errorf("12.1: Mix(%v, %v, %d) is %v, want %v", p, q, at, got, want)
				}
				if got, want := pixel.Mix(q, p, at), wantMix(q, zero, at); got != want {
					t.Errorf("12.1: Mix(%v, %v, %d) is %v, want %v", q, p, at, got, want)
				}
			}
		}
	}
}

// 12.1: two pixels that are not right count as two zero ones.
func TestWrongBesideWrong(t *testing.T) {
	zero := px(0, 0, 0, 0)
	list := wrong()
	for k, p := range list {
		q := list[(k*97+31)%len(list)]
		for _, at := range ways() {
			if got := pixel.Mix(p, q, at); got != zero {
				t.Errorf("12.1: Mix(%v, %v, %d) is %v", p, q, at, got)
			}
		}
		if got := pixel.Over(p, q); got != zero {
			t.Errorf("12.1: Over(%v, %v) is %v", p, q, got)
		}
	}
}

// 12.1: a pixel that is not right is four bytes of 0, wherever it stands.
func TestWrongAsBytes(t *testing.T) {
	for _, p := range wrong() {
		if got := pixel.Bytes([]api.Pixel{p}); !bytes.Equal(got, []byte{0, 0, 0, 0}) {
			t.Errorf("12.1: Bytes of %v is %v", p, got)
		}
		got := pixel.Bytes([]api.Pixel{p, px(1, 2, 3, 4), p, p, px(255, 254, 0, 0), p})
		want := []byte{0, 0, 0, 0, 1, 2, 3, 4, 0, 0, 0, 0, 0, 0, 0, 0, 255, 254, 0, 0, 0, 0, 0, 0}
		if !bytes.Equal(got, want) {
			t.Errorf("12.1: Bytes of %v among others is %v", p, got)
		}
	}
}
