package png

import (
	"versal/api"
	"versal/rows"
	"versal/zlib"
)

// image answers what the stream says, now that all chunks are told.
func (f *file) image() (api.Image, api.Errno) {
	passes := f.head.passes()
	size := f.head.size(passes)
	lines, e := zlib.Open(f.stream, size)
	if e != api.OK {
		return api.Image{}, e
	}
	if len(lines) < size {
		return api.Image{}, api.ErrForm
	}
	i := api.Image{W: f.head.w, H: f.head.h, Pix: make([]api.Pixel, f.head.w*f.head.h)}
	for _, p := range passes {
		n := f.head.size([]rows.Pass{p})
		if e := f.fill(i, p, lines[:n]); e != api.OK {
			return api.Image{}, e
		}
		lines = lines[n:]
	}
	return i, api.OK
}

// fill puts a pass's pixels in their places. Its first line has none above it,
// whatever the pass ahead of it was.
func (f *file) fill(i api.Image, p rows.Pass, lines []byte) api.Errno {
	size := f.head.lineSize(p.W)
	var above []byte
	for y := range p.H {
		kind, filtered := int(lines[0]), lines[1:1+size]
		line, e := rows.Undo(kind, f.head.bpp(), filtered, above)
		if e != api.OK {
			return api.ErrForm
		}
		for x := range p.W {
			c, e := f.pixel(line, x)
			if e != api.OK {
				return e
			}
			i.Pix[(p.Y+y*p.DY)*i.W+p.X+x*p.DX] = c
		}
		lines, above = lines[1+size:], line
	}
	return api.OK
}

// pixel answers the x-th of a line.
func (f *file) pixel(line []byte, x int) (api.Pixel, api.Errno) {
	var raw, s [4]int
	n := f.head.samples()
	for k := range n {
		raw[k] = f.head.sample(line, x*n+k)
		s[k] = f.head.shade(raw[k])
	}
	switch f.head.kind {
	case gray:
		return api.Pixel{R: s[0], G: s[0], B: s[0], A: f.alpha(raw)}, api.OK
	case colour:
		return api.Pixel{R: s[0], G: s[1], B: s[2], A: f.alpha(raw)}, api.OK
	case indexed:
		return f.entry(raw[0])
	case grayAlpha:
		return api.Pixel{R: s[0], G: s[0], B: s[0], A: s[1]}, api.OK
	}
	return api.Pixel{R: s[0], G: s[1], B: s[2], A: s[3]}, api.OK
}

// alpha answers that of a pixel of these samples, as they stand: two that are
// shown alike may be unlike in bits that are not shown.
func (f *file) alpha(raw [4]int) int {
	if f.cleared && raw == f.clear {
		return 0
	}
	return full
}

// entry answers the k-th of the palette.
func (f *file) entry(k int) (api.Pixel, api.Errno) {
	if k >= len(f.palette)/entrySize {
		return api.Pixel{}, api.ErrForm
	}
	c := f.palette[k*entrySize:]
	a := full
	if k < len(f.alphas) {
		a = int(f.alphas[k])
	}
	return api.Pixel{R: int(c[0]), G: int(c[1]), B: int(c[2]), A: a}, api.OK
}
