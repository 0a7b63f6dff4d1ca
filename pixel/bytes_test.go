package pixel_test

import (
	"bytes"
	"slices"
	"testing"

	"versal/api"
	"versal/pixel"
)

// 12.1: Bytes of no pixel, of one, of some: R, G, B, A of each.
func TestBytes(t *testing.T) {
	for _, c := range []struct {
		l    []api.Pixel
		want []byte
	}{
		{nil, nil}, {[]api.Pixel{}, nil},
		{[]api.Pixel{px(1, 2, 3, 4)}, []byte{1, 2, 3, 4}},
		{[]api.Pixel{px(0, 0, 0, 0)}, []byte{0, 0, 0, 0}},
		{[]api.Pixel{px(255, 0, 254, 128), px(127, 129, 1, 255)}, []byte{255, 0, 254, 128, 127, 129, 1, 255}},
		// Straight and premultiplied ones are laid as they are.
		{[]api.Pixel{px(200, 100, 50, 0), px(4, 5, 6, 7), px(4, 5, 6, 7)}, []byte{200, 100, 50, 0, 4, 5, 6, 7, 4, 5, 6, 7}},
	} {
		if got := pixel.Bytes(c.l); !bytes.Equal(got, c.want) {
			t.Errorf("12.1: Bytes(%v) is %v, want %v", c.l, got, c.want)
		}
	}
}

// 12.1: Bytes of lists of many lengths, some of whose pixels are not right.
func TestBytesOfMany(t *testing.T) {
	list := slices.Concat(spread(2000), wrong(), edges(), spread(3000))
	for _, n := range []int{1, 2, 3, 4, 5, 63, 64, 65, 1999, 2000, 2001, 2100, len(list) - 1, len(list)} {
		if got := pixel.Bytes(list[:n]); !bytes.Equal(got, wantBytes(list[:n])) {
			t.Errorf("12.1: Bytes of %d pixels: %d bytes that are others", n, len(got))
		}
	}
	tile := make([]api.Pixel, 64*64)
	for k := range tile {
		tile[k] = px(k%256, k/16, k*7%256, 255)
	}
	if got := pixel.Bytes(tile); len(got) != 4*64*64 || !bytes.Equal(got, wantBytes(tile)) {
		t.Error("12.1: Bytes of a tile")
	}
}

// R2: what is handed in to Bytes is as it was, what lies ahead of it and its spare
// room included.
func TestBytesChangesNothing(t *testing.T) {
	for _, n := range []int{0, 1, 2, 7, 64, 300} {
		list := slices.Concat(spread(10), wrong()[:n/2], spread(n-n/2), wrong()[:9])
		before := slices.Clone(list)
		pixel.Bytes(list[10 : 10+n])
		pixel.Bytes(list[10 : 10+n : 10+n])
		pixel.Bytes(list[:0])
		if !slices.Equal(list, before) {
			t.Errorf("R2: a list of %d pixels was changed", n)
		}
	}
}

// R2: an answer of Bytes and its spare room may be changed, and neither the list
// nor another answer notices; and the list may be changed.
func TestBytesIsNewMemory(t *testing.T) {
	for _, n := range []int{0, 1, 2, 7, 64, 300} {
		list := spread(n)
		before := slices.Clone(list)
		one, other := pixel.Bytes(list), pixel.Bytes(list)
		want := bytes.Clone(other)
		room := one[:cap(one)]
		for k := range room {
			room[k] ^= 0xff
		}
		if !slices.Equal(list, before) || !bytes.Equal(other, want) {
			t.Errorf("R2: an answer's change is seen, of %d pixels", n)
		}
		for k := range list {
			list[k] = px(9, 9, 9, 9)
		}
		if !bytes.Equal(other, want) || !bytes.Equal(pixel.Bytes(before), want) {
			t.Errorf("R2: the list of %d pixels is kept", n)
		}
	}
}

// R4: a call knows nothing of those ahead of it, and several goroutines may ask
// at a time.
func TestApart(t *testing.T) {
	list := append(spread(200), wrong()[:50]...)
	told := make(chan bool)
	for g := range 8 {
		go func() {
			fine := true
			for k := range list {
				p, q := list[k], list[(k*7+g)%len(list)]
				fine = fine && pixel.Over(p, q) == wantOver(p, q) && pixel.Mix(p, q, g*9000) == wantMix(p, q, g*9000)
				fine = fine && pixel.Pre(p) == wantPre(p) && pixel.Bare(q) == wantBare(q)
			}
			told <- fine && bytes.Equal(pixel.Bytes(list), wantBytes(list))
		}()
	}
	for range 8 {
		if !<-told {
			t.Error("R4: otherwise beside others")
		}
	}
}
