package png_test

import (
	"bytes"
	"image"
	"image/color"
	stdpng "image/png"
	"strconv"
	"testing"

	"versal/api"
	"versal/png"
	"versal/sample"
)

// seen answers an image of the library's, straight.
func seen(t *testing.T, from image.Image) api.Image {
	t.Helper()
	i := api.Image{W: from.Bounds().Dx(), H: from.Bounds().Dy()}
	for y := range i.H {
		for x := range i.W {
			var p api.Pixel
			switch c := from.At(x, y).(type) {
			case color.Gray:
				p = one(int(c.Y), int(c.Y), int(c.Y), 255)
			case color.Gray16:
				p = one(int(c.Y>>8), int(c.Y>>8), int(c.Y>>8), 255)
			case color.NRGBA:
				p = one(int(c.R), int(c.G), int(c.B), int(c.A))
			case color.NRGBA64:
				p = one(int(c.R>>8), int(c.G>>8), int(c.B>>8), int(c.A>>8))
			case color.RGBA:
				p = one(int(c.R), int(c.G), int(c.B), int(c.A))
			case color.RGBA64:
				p = one(int(c.R>>8), int(c.G>>8), int(c.B>>8), int(c.A>>8))
			default:
				t.Fatalf("a colour of another kind: %T", c)
			}
			i.Pix = append(i.Pix, p)
		}
	}
	return i
}

// both holds a file against the library's reading and the plain one.
func both(t *testing.T, what string, b []byte) {
	t.Helper()
	got, err := stdpng.Decode(bytes.NewReader(b))
	if err != nil {
		t.Fatalf("11.2: %s: the library says %v", what, err)
	}
	is(t, what, b, seen(t, got))
	holdExpected(t, what, b)
}

// named answers what a picture is.
func (p picture) named() string {
	all := ""
	for _, n := range []int{p.kind, p.depth, p.w, p.h} {
		all += " " + strconv.Itoa(n)
	}
	return "type, depth, w, h" + all
}

// plte answers the palette of a picture, as its chunks: none, if it has none.
func (p picture) plte() (palette []byte, chunks [][]byte) {
	if p.kind != 3 {
		return nil, nil
	}
	palette = sample.Bytes(3<<p.depth, p.depth)
	return palette, [][]byte{chunk("PLTE", palette...)}
}

// 11.2: each type with each depth, each filter and all in turn, with and without
// interlace, whatever the bits are that are left over.
func TestEachForm(t *testing.T) {
	for _, f := range forms() {
		for _, s := range sizes() {
			p := painted(f, s, s.w*99+s.h, 0)
			palette, behind := p.plte()
			want := p.image(palette)
			for kind := range 6 {
				for _, laced := range []bool{false, true} {
					for _, spare := range []string{"0", "1"} {
						b := p.file(laced, p.lines(laced, kind, spare), behind...)
						what := p.named() + ", filter " + strconv.Itoa(kind) + ", interlace " + strconv.FormatBool(laced)
						is(t, what, b, want)
						if kind == 5 {
							both(t, what, b)
						}
					}
				}
			}
		}
	}
}

// 11.2: the greatest images, of each form.
func TestGreatest(t *testing.T) {
	for _, f := range forms() {
		for _, s := range []size{{256, 256}, {256, 1}, {1, 256}, {255, 3}} {
			p := painted(f, s, 7, 0)
			palette, behind := p.plte()
			for _, laced := range []bool{false, true} {
				is(t, p.named(), p.file(laced, p.lines(laced, 5, "0"), behind...), p.image(palette))
			}
		}
	}
}

// 11.2: with interlace each size up to 9 by 9, so that each pass is left out, is
// one line and is one column.
func TestEachLace(t *testing.T) {
	for _, f := range []form{{0, 1}, {0, 4}, {3, 2}, {0, 8}, {2, 8}, {6, 16}} {
		for w := 1; w <= 9; w++ {
			for h := 1; h <= 9; h++ {
				p := painted(f, size{w, h}, w*10+h, 0)
				_, behind := p.plte()
				both(t, p.named(), p.file(true, p.lines(true, 5, "1"), behind...))
			}
		}
	}
}

// 11.2: what each sample of 1, 2 and 4 bits is, of 8 and of 16.
func TestShades(t *testing.T) {
	for depth, want := range map[int][]int{
		1: {0, 255}, 2: {0, 85, 170, 255}, 4: {0, 17, 34, 51, 68, 85, 102, 119, 136, 153, 170, 187, 204, 221, 238, 255},
	} {
		p := picture{form: form{0, depth}, size: size{len(want), 1}}
		i := api.Image{W: len(want), H: 1}
		for n, shade := range want {
			p.raw = append(p.raw, []int{n})
			i.Pix = append(i.Pix, one(shade, shade, shade, 255))
		}
		is(t, p.named(), p.file(false, p.lines(false, 0, "0")), i)
	}
	for _, f := range []form{{0, 8}, {0, 16}, {2, 8}, {2, 16}, {4, 8}, {4, 16}, {6, 8}, {6, 16}} {
		for _, low := range []int{0, 1, 127, 128, 255} {
			p := picture{form: f, size: size{256, 1}}
			i := api.Image{W: 256, H: 1}
			for n := range 256 {
				s := []int{n, 255 - n, n ^ 85, n / 2}[:channels(f.kind)]
				i.Pix = append(i.Pix, map[int]api.Pixel{
					0: one(n, n, n, 255), 2: one(n, 255-n, n^85, 255), 4: one(n, n, n, 255-n), 6: one(n, 255-n, n^85, n/2),
				}[f.kind])
				if f.depth == 16 {
					for k := range s {
						s[k] = s[k]<<8 | low
					}
				}
				p.raw = append(p.raw, s)
			}
			is(t, p.named(), p.file(false, p.lines(false, 0, "0")), i)
		}
	}
}

// 11.2: a chunk that may be passed over is, wherever it stands and however long
// it is; letters but the first may be great.
func TestPassedOver(t *testing.T) {
	p := painted(form{2, 8}, size{3, 2}, 4, 0)
	want := p.image(nil)
	head, data := ihdr(3, 2, 8, 2, 0), idat(p.lines(false, 4, "0")...)
	for _, name := range []string{
		"tEXt", "zTXt", "gAMA", "aaaa", "zzzz", "aAAA", "aZZZ", "iHDR", "iDAT", "iEND", "pLTE", "tRNs", "trns", "abCd", "abcD", "idat",
	} {
		for _, body := range [][]byte{nil, {1}, sample.Bytes(13, 1), sample.Bytes(700, 2), sample.Bytes(70000, 3)} {
			c := chunk(name, body...)
			plte := chunk("PLTE", 1, 2, 3)
			is(t, name+" behind IHDR", file(head, c, data, iend()), want)
			is(t, name+" behind IDAT", file(head, data, c, iend()), want)
			is(t, name+" all over", file(head, c, c, plte, c, data, c, c, iend()), want)
		}
	}
}

// 11.2: one stream in many IDATs, empty ones too, however it is parted.
func TestManyIDATs(t *testing.T) {
	p := painted(form{0, 8}, size{5, 4}, 4, 0)
	want := p.image(nil)
	head, stream := ihdr(5, 4, 8, 0, 0), packed(p.lines(false, 2, "0"))
	for k := range len(stream) + 1 {
		first, second := chunk("IDAT", stream[:k]...), chunk("IDAT", stream[k:]...)
		is(t, "in two", file(head, first, second, iend()), want)
		none := chunk("IDAT")
		is(t, "in two, empty ones about", file(head, none, none, first, none, second, none, iend()), want)
	}
	all := [][]byte{head}
	for _, x := range stream {
		all = append(all, chunk("IDAT", x))
	}
	is(t, "byte by byte", file(append(all, iend())...), want)
	for _, n := range []int{2, 3, 7} {
		all = [][]byte{head}
		for k := 0; k < len(stream); k += n {
			all = append(all, chunk("IDAT", stream[k:min(k+n, len(stream))]...))
		}
		is(t, "in pieces", file(append(all, iend())...), want)
	}
}

// 11.2: other streams of the same lines: stored and in each way of the library.
func TestStreams(t *testing.T) {
	i := picked(20, 9, 3)
	b, _ := png.Lay(i)
	is(t, "stored", b, i)
	var lines []byte
	for k, p := range i.Pix {
		if k%20 == 0 {
			lines = append(lines, 0)
		}
		lines = append(lines, byte(p.R), byte(p.G), byte(p.B), byte(p.A))
	}
	is(t, "packed", file(ihdr(20, 9, 8, 6, 0), idat(lines...), iend()), i)
	zero := api.Image{W: 256, H: 256, Pix: make([]api.Pixel, 65536)}
	is(t, "all zeros", file(ihdr(256, 256, 8, 6, 0), idat(make([]byte, 256*1025)...), iend()), zero)
}
