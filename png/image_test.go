package png_test

import (
	"bytes"
	"image"
	stdpng "image/png"
	"math"
	"slices"
	"strconv"
	"testing"

	"versal/api"
	"versal/png"
	"versal/sample"
	"versal/zlib"
)

// picked answers an image of these sides, its pixels unlike one another.
func picked(w, h, seed int) api.Image {
	i := api.Image{W: w, H: h, Pix: make([]api.Pixel, w*h)}
	pick := sample.Source(seed)
	for k := range i.Pix {
		i.Pix[k] = one(pick(256), pick(256), pick(256), pick(256))
	}
	return i
}

// sizes answers sides that are held with each form.
func sizes() []size {
	return []size{{1, 1}, {2, 1}, {1, 2}, {3, 5}, {5, 3}, {7, 9}, {8, 8}, {9, 17}, {16, 4}, {33, 20}}
}

// 11.1: the chapter's example, and Lay byte by byte.
func TestLayBytes(t *testing.T) {
	i := api.Image{W: 1, H: 1, Pix: []api.Pixel{one(1, 2, 3, 4)}}
	b, e := png.Lay(i)
	want := "\x89PNG\r\n\x1a\n" +
		"\x00\x00\x00\x0dIHDR\x00\x00\x00\x01\x00\x00\x00\x01\x08\x06\x00\x00\x00\x1f\x15\xc4\x89" +
		"\x00\x00\x00\x10IDAT\x78\x01\x01\x05\x00\xfa\xff\x00\x01\x02\x03\x04\x00\x19\x00\x0b\xb9\xb0\xe3\xeb" +
		"\x00\x00\x00\x00IEND\xae\x42\x60\x82"
	if e != api.OK || string(b) != want {
		t.Errorf("11.1: error %d, % x, not % x", e, b, want)
	}
	is(t, "the example", b, i)
}

// 11.1: one IDAT of all lines, each behind a filter of 0, and no other chunk.
func TestLayForm(t *testing.T) {
	for _, s := range append(sizes(), size{256, 1}, size{1, 256}, size{64, 255}, size{65, 252}, size{256, 256}) {
		i := picked(s.w, s.h, s.w+s.h)
		var lines []byte
		for k, p := range i.Pix {
			if k%s.w == 0 {
				lines = append(lines, 0)
			}
			lines = append(lines, byte(p.R), byte(p.G), byte(p.B), byte(p.A))
		}
		want := file(ihdr(s.w, s.h, 8, 6, 0), chunk("IDAT", zlib.Lay(lines)...), iend())
		if b, e := png.Lay(i); e != api.OK || !bytes.Equal(b, want) {
			t.Errorf("11.1: %v: error %d, %d bytes, not %d", s, e, len(b), len(want))
		}
	}
}

// 11.3: what is laid is decoded the same: each size up to 20 by 20, and the
// greatest ones.
func TestLaidAndDecoded(t *testing.T) {
	hold := func(w, h int) {
		i := picked(w, h, w*300+h)
		b, e := png.Lay(i)
		if e != api.OK {
			t.Fatalf("11.1: %d by %d: error %d", w, h, e)
		}
		is(t, "laid", b, i)
		if j, _ := png.Decode(b); !png.Same(i, j) || !png.Same(j, i) {
			t.Errorf("11.3: %d by %d", w, h)
		}
		if again, e := png.Lay(i); e != api.OK || !bytes.Equal(again, b) {
			t.Errorf("R4: %d by %d is laid otherwise", w, h)
		}
	}
	for w := 1; w <= 20; w++ {
		for h := 1; h <= 20; h++ {
			hold(w, h)
		}
	}
	for _, s := range []size{{255, 1}, {256, 1}, {1, 256}, {256, 256}, {255, 256}, {128, 127}} {
		hold(s.w, s.h)
	}
}

// 11.3: each number at each place of a pixel comes back.
func TestEachNumber(t *testing.T) {
	i := api.Image{W: 256, H: 4}
	for k := range 4 {
		for n := range 256 {
			s := [4]int{7, 77, 177, 227}
			s[k] = n
			i.Pix = append(i.Pix, one(s[0], s[1], s[2], s[3]))
		}
	}
	b, _ := png.Lay(i)
	is(t, "each number", b, i)
}

// 11.1: the library reads what is laid.
func TestLibraryReadsLaid(t *testing.T) {
	for _, s := range append(sizes(), size{256, 256}) {
		i := picked(s.w, s.h, 5)
		b, _ := png.Lay(i)
		got, err := stdpng.Decode(bytes.NewReader(b))
		if err != nil {
			t.Fatalf("11.1: %v: %v", s, err)
		}
		if read := seen(t, got); !png.Same(read, i) {
			t.Errorf("11.1: %v: the library sees others", s)
		}
	}
}

// 11.3: what the library writes of one is decoded the same.
func TestLibraryWrites(t *testing.T) {
	for _, s := range append(sizes(), size{256, 256}) {
		for step := 1; step <= 9; step += 4 {
			to := image.NewNRGBA(image.Rect(0, 0, s.w, s.h))
			want := api.Image{W: s.w, H: s.h}
			for k := range to.Pix {
				to.Pix[k] = byte(k*step/3 + k/4%s.w*step)
			}
			for k := 0; k < len(to.Pix); k += 4 {
				want.Pix = append(want.Pix, one(int(to.Pix[k]), int(to.Pix[k+1]), int(to.Pix[k+2]), int(to.Pix[k+3])))
			}
			for _, level := range []stdpng.CompressionLevel{stdpng.DefaultCompression, stdpng.NoCompression, stdpng.BestSpeed, stdpng.BestCompression} {
				var b bytes.Buffer
				encoder := stdpng.Encoder{CompressionLevel: level}
				if err := encoder.Encode(&b, to); err != nil {
					t.Fatal(err)
				}
				is(t, "the library's", b.Bytes(), want)
			}
		}
	}
}

// wrongImages answers images that are none, by what is wrong with them.
func wrongImages() map[string]api.Image {
	many := func(n int) []api.Pixel { return make([]api.Pixel, n) }
	all := map[string]api.Image{
		"nothing": {}, "no pixels": {W: 1, H: 1}, "a pixel more": {W: 2, H: 2, Pix: many(5)}, "a pixel less": {W: 2, H: 2, Pix: many(3)},
		"no pixels, empty": {W: 1, H: 1, Pix: []api.Pixel{}}, "pixels in the spare room": {W: 2, H: 2, Pix: many(4)[:3]},
		"width 0": {W: 0, H: 1}, "height 0": {W: 1, H: 0}, "width 0, a pixel": {W: 0, H: 1, Pix: many(1)}, "height 0, a pixel": {W: 1, H: 0, Pix: many(1)},
		"width 257": {W: 257, H: 1, Pix: many(257)}, "height 257": {W: 1, H: 257, Pix: many(257)}, "both 257": {W: 257, H: 257, Pix: many(257 * 257)},
		"width -1": {W: -1, H: 1, Pix: many(1)}, "height -1": {W: 1, H: -1, Pix: many(1)}, "both below 0": {W: -2, H: -3, Pix: many(6)}, "both -1": {W: -1, H: -1, Pix: many(1)},
		"one in its lower bits": {W: 1<<32 + 1, H: 1, Pix: many(1)}, "one in its lower byte": {W: 257, H: 256, Pix: many(256)},
		"a product that wraps to 0": {W: 1 << 32, H: 1 << 32}, "a product that wraps to 1": {W: math.MaxInt, H: math.MaxInt, Pix: many(1)},
		"the least": {W: math.MinInt, H: math.MinInt}, "the least and 1": {W: math.MinInt, H: 1, Pix: many(1)},
	}
	for k := range 4 {
		for _, n := range []int{-1, 256, 257, -255, -256, 511, 512, 65536, 1 << 32, 1<<32 + 5, math.MaxInt, math.MinInt} {
			for _, at := range []int{0, 3, 5} {
				i := picked(3, 2, k)
				p := &i.Pix[at]
				*[]*int{&p.R, &p.G, &p.B, &p.A}[k] = n
				all["number "+strconv.Itoa(k)+" of "+strconv.Itoa(at)+": "+strconv.Itoa(n)] = i
			}
		}
	}
	return all
}

// 11.1: what is no image is not right, and cannot be laid.
func TestWrongImages(t *testing.T) {
	for what, i := range wrongImages() {
		if png.Right(i) {
			t.Errorf("11.1: %s: right", what)
		}
		if b, e := png.Lay(i); e != api.ErrArg || b != nil {
			t.Errorf("11.1: %s: error %d, %d bytes", what, e, len(b))
		}
	}
}

// 11.1: what is an image is right, at each edge of its sides and numbers.
func TestRightImages(t *testing.T) {
	for _, s := range append(sizes(), size{256, 1}, size{1, 256}, size{256, 256}) {
		if !png.Right(picked(s.w, s.h, 3)) {
			t.Errorf("11.1: %v", s)
		}
	}
	for bits := range 16 {
		p := one(255*(bits&1), 255*(bits>>1&1), 255*(bits>>2&1), 255*(bits>>3&1))
		i := api.Image{W: 1, H: 1, Pix: []api.Pixel{p}}
		b, e := png.Lay(i)
		if !png.Right(i) || e != api.OK {
			t.Errorf("11.1: %v", p)
		}
		is(t, "least and greatest numbers", b, i)
	}
}

// Same: sides and pixels, and nothing else.
func TestSame(t *testing.T) {
	i := picked(4, 3, 1)
	j := api.Image{W: 4, H: 3, Pix: slices.Clone(i.Pix)}
	if !png.Same(i, i) || !png.Same(i, j) || !png.Same(j, i) {
		t.Error("Same: not itself")
	}
	for k := range j.Pix {
		for _, n := range []*int{&j.Pix[k].R, &j.Pix[k].G, &j.Pix[k].B, &j.Pix[k].A} {
			*n ^= 1
			if png.Same(i, j) || png.Same(j, i) {
				t.Errorf("Same: other numbers of pixel %d", k)
			}
			*n ^= 1
		}
	}
	for _, other := range []api.Image{
		{W: 3, H: 4, Pix: i.Pix}, {W: 12, H: 1, Pix: i.Pix}, {W: 4, H: 4, Pix: i.Pix}, {W: 5, H: 3, Pix: i.Pix},
		{W: 4, H: 3, Pix: i.Pix[:11]}, {W: 4, H: 3, Pix: append(slices.Clone(i.Pix), api.Pixel{})}, {W: 4, H: 3}, {},
	} {
		if png.Same(i, other) || png.Same(other, i) {
			t.Errorf("Same: %d by %d, %d pixels", other.W, other.H, len(other.Pix))
		}
	}
	if !png.Same(api.Image{}, api.Image{Pix: []api.Pixel{}}) {
		t.Error("R2: nil and an empty list are not the same")
	}
}
