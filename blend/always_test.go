package blend_test

import (
	"testing"

	"versal/api"
	"versal/blend"
	"versal/pixel"
)

// 13.3: what comes of two premultiplied pixels is premultiplied, by each mode.
func TestPremultipliedAgain(t *testing.T) {
	list := append(edges(), spread(500)...)
	for mode := range blend.Modes {
		for k, p := range list {
			for step := range 150 {
				q := list[(k*11+step*7)%len(list)]
				got, ok := blend.Blend(mode, p, q)
				if !ok || !pixel.Premultiplied(got) {
					t.Fatalf("13.3: mode %d (%s) of %v upon %v is %v, %v", mode, names[mode], p, q, got, ok)
				}
			}
		}
	}
}

// 13.3: what comes of a pixel is taken again, from mode to mode.
func TestOneUponAnother(t *testing.T) {
	for k, p := range spread(400) {
		under := p
		for step := range 3 * blend.Modes {
			mode := (k + step*5) % blend.Modes
			next, ok := blend.Blend(mode, p, under)
			if !ok || !pixel.Premultiplied(next) || next != want(mode, p, under) {
				t.Fatalf("13.3: mode %d of %v upon %v is %v, %v", mode, p, under, next, ok)
			}
			under = next
		}
	}
}

// 13.1: the alpha of modes 13 to 27 is that of src over, and src over is pixel's
// Over.
func TestAlphaIsThatOfSrcOver(t *testing.T) {
	list := append(edges(), spread(300)...)
	for k, p := range list {
		for step := range 40 {
			q := list[(k*3+step*17)%len(list)]
			over, _ := blend.Blend(3, p, q)
			if over != pixel.Over(p, q) {
				t.Fatalf("13.1: src over of %v and %v is %v", p, q, over)
			}
			for mode := 13; mode < blend.Modes; mode++ {
				if got, _ := blend.Blend(mode, p, q); got.A != over.A {
					t.Fatalf("13.1: mode %d of %v upon %v has an alpha of %d", mode, p, q, got.A)
				}
			}
		}
	}
}

// R4: a call knows nothing of those ahead of it, refused ones too, and several
// goroutines may ask at a time.
func TestApart(t *testing.T) {
	list := spread(120)
	told := make(chan bool)
	for g := range 8 {
		go func() {
			fine := true
			for k, p := range list {
				for mode := range blend.Modes {
					q := list[(k*7+g*13+mode)%len(list)]
					got, ok := blend.Blend(mode, p, q)
					fine = fine && ok && got == want(mode, p, q)
					none, ok := blend.Blend(mode+28, p, api.Pixel{R: 1})
					fine = fine && !ok && none == api.Pixel{}
					again, _ := blend.Blend(mode, p, q)
					fine = fine && again == got
				}
			}
			told <- fine
		}()
	}
	for range 8 {
		if !<-told {
			t.Error("R4: otherwise beside others")
		}
	}
}
