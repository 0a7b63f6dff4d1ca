package png

import (
	"versal/api"
	"versal/peek"
	"versal/rows"
)

// headSize is how many bytes IHDR has.
const headSize = 13

// head is an image's sides and its form.
type head struct {
	w, h, depth, kind int
	laced             bool
}

// headIn answers what IHDR says.
func headIn(body []byte) (head, api.Errno) {
	if len(body) != headSize {
		return head{}, api.ErrForm
	}
	w, _ := peek.U32(body, 0)
	h, _ := peek.U32(body, 4)
	switch {
	case w == 0 || h == 0:
		return head{}, api.ErrForm
	case w > api.MaxImage || h > api.MaxImage:
		return head{}, api.ErrBig
	}
	compression, filter, interlace := body[10], body[11], body[12]
	told := head{w: w, h: h, depth: int(body[8]), kind: int(body[9]), laced: interlace == 1}
	if !told.allowed() || compression != 0 || filter != 0 || interlace > 1 {
		return head{}, api.ErrForm
	}
	return told, api.OK
}

// allowed tells whether there is such a type, and whether it has this depth.
func (h head) allowed() bool {
	switch h.depth {
	case 1, 2, 4:
		return h.kind == gray || h.kind == indexed
	case 8:
		return h.samples() > 0
	case 16:
		return h.samples() > 0 && h.kind != indexed
	}
	return false
}

// samples answers how many there are to a pixel: 0, if there is no such type.
func (h head) samples() int {
	switch h.kind {
	case gray, indexed:
		return 1
	case grayAlpha:
		return 2
	case colour:
		return 3
	case colourAlpha:
		return 4
	}
	return 0
}

// bpp answers what the filters take a pixel to be: no less than one byte.
func (h head) bpp() int { return max(1, h.samples()*h.depth/8) }

// lineSize answers how many bytes a line of w pixels takes, its filter's byte
// aside.
func (h head) lineSize(w int) int { return (w*h.samples()*h.depth + 7) / 8 }

// passes answers those of the image: just one, if it is not interlaced.
func (h head) passes() []rows.Pass {
	if h.laced {
		return rows.Passes(h.w, h.h)
	}
	return []rows.Pass{{DX: 1, DY: 1, W: h.w, H: h.h}}
}

// size answers how many bytes all lines of these passes take, each with its
// filter's byte.
func (h head) size(passes []rows.Pass) int {
	n := 0
	for _, p := range passes {
		n += p.H * (1 + h.lineSize(p.W))
	}
	return n
}

// sample answers the k-th of a line, as it stands. Those that share a byte
// stand in it from its highest bits on.
func (h head) sample(line []byte, k int) int {
	if h.depth == 16 {
		n, _ := peek.U16(line, 2*k)
		return n
	}
	bit := k * h.depth
	return int(line[bit/8]) >> (8 - h.depth - bit%8) & (1<<h.depth - 1)
}

// shade answers what a sample is as one of a pixel's numbers.
func (h head) shade(n int) int {
	if h.depth == 16 {
		return n >> 8
	}
	return n * full / (1<<h.depth - 1)
}
