package png_test

import (
	"bytes"
	"slices"
	"testing"

	"versal/api"
	"versal/png"
	"versal/sample"
)

// spoilPixels turns each pixel of an answer and of its spare room.
func spoilPixels(i api.Image) {
	room := i.Pix[:cap(i.Pix)]
	for k := range room {
		room[k] = one(-1, -2, -3, -4)
	}
}

// R2: Decode leaves what is handed in as it was, what lies about it included,
// also beside an error.
func TestDecodeChangesNothing(t *testing.T) {
	for k, b := range append(seeds(), nil, []byte(signature), file(broken("IHDR"))) {
		whole := slices.Concat(sample.Bytes(9, 1), b, sample.Bytes(90, 2))
		before := bytes.Clone(whole)
		for _, n := range []int{len(b), max(0, len(b)-1), len(b) / 2, len(b) + 1} {
			png.Decode(whole[9 : 9+n])
			png.Decode(whole[9 : 9+n : 9+n])
		}
		if !bytes.Equal(whole, before) {
			t.Errorf("R2: file %d was changed", k)
		}
	}
}

// R2: an image that is decoded may be changed, and neither the bytes nor another
// answer notices; and the bytes may be changed.
func TestDecodeIsNewMemory(t *testing.T) {
	for k, b := range seeds() {
		before := bytes.Clone(b)
		i, e := png.Decode(b)
		j, f := png.Decode(b)
		if e != api.OK || f != api.OK {
			t.Fatalf("file %d: errors %d and %d", k, e, f)
		}
		want := slices.Clone(j.Pix)
		spoilPixels(i)
		if !bytes.Equal(b, before) || !slices.Equal(j.Pix, want) {
			t.Errorf("R2: an answer's change is seen, file %d", k)
		}
		for at := range b {
			b[at] ^= 0xff
		}
		if !slices.Equal(j.Pix, want) {
			t.Errorf("R2: the bytes are kept, file %d", k)
		}
	}
}

// R2: Lay, Right and Same leave an image as it was, its spare room included,
// also where it is none.
func TestImagesAreNotChanged(t *testing.T) {
	images := []api.Image{picked(5, 4, 1), picked(256, 3, 2), {W: 2, H: 2}}
	for _, i := range wrongImages() {
		images = append(images, i)
	}
	for _, i := range images {
		room := append(slices.Clone(i.Pix), picked(3, 3, 3).Pix...)
		before := slices.Clone(room)
		j := api.Image{W: i.W, H: i.H, Pix: room[:len(i.Pix)]}
		png.Lay(j)
		png.Right(j)
		png.Same(j, j)
		png.Same(j, api.Image{W: i.W, H: i.H, Pix: room[1 : 1+len(i.Pix)]})
		if !slices.Equal(room, before) {
			t.Errorf("R2: an image of %d by %d was changed", i.W, i.H)
		}
	}
}

// R2: what is laid may be changed, and neither the image nor another answer
// notices; and the image may be changed.
func TestLayIsNewMemory(t *testing.T) {
	for _, s := range append(sizes(), size{256, 256}) {
		i := picked(s.w, s.h, 3)
		before := slices.Clone(i.Pix)
		b, _ := png.Lay(i)
		c, _ := png.Lay(i)
		want := bytes.Clone(c)
		room := b[:cap(b)]
		for k := range room {
			room[k] ^= 0xff
		}
		spoiled := !slices.Equal(i.Pix, before) || !bytes.Equal(c, want)
		spoilPixels(i)
		if spoiled || !bytes.Equal(c, want) {
			t.Errorf("R2: %v: memory is shared", s)
		}
		if d, e := png.Lay(api.Image{W: s.w, H: s.h, Pix: before}); e != api.OK || !bytes.Equal(d, want) {
			t.Errorf("R4: %v: laid otherwise behind others", s)
		}
	}
}

// R4: a call knows nothing of those ahead of it, and several goroutines may ask
// at a time.
func TestApart(t *testing.T) {
	from := seeds()
	var want []api.Image
	for _, b := range from {
		i, _ := expected(b)
		want = append(want, i)
	}
	told := make(chan bool)
	for g := range 8 {
		go func() {
			fine := true
			for n := range len(from) * 3 {
				k := (n*7 + g) % len(from)
				png.Decode(from[k][:len(from[k])/2])
				i, e := png.Decode(from[k])
				b, f := png.Lay(i)
				j, _ := png.Decode(b)
				fine = fine && e == api.OK && f == api.OK && png.Same(i, want[k]) && png.Same(j, i)
			}
			told <- fine
		}()
	}
	for range 8 {
		if !<-told {
			t.Error("R4: otherwise beside others")
		}
	}
}
