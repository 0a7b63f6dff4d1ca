package glyf

import (
	"versal/api"
	"versal/fixed"
)

// Of a component's flags. Places, and not numbers of points, have to be told
// as its arguments.
const (
	inWords    = 1 << 0
	moved      = 1 << 1
	oneScale   = 1 << 3
	another    = 1 << 5
	twoScales  = 1 << 6
	fourScales = 1 << 7
)

// component is a glyph as a part of another one: x becomes xx x + xy y + dx, y
// becomes yx x + yy y + dy, where dx and dy are whole numbers and the others
// 16.16.
type component struct {
	glyph          int
	xx, yx, xy, yy int
	dx, dy         int
	last           bool
}

// composite answers the contours of a glyph that is made of others. A
// component's own outline is asked for ahead of the bytes of the one behind.
func (w *walk) composite(r *reader) ([][]api.Point, api.Errno) {
	var contours [][]api.Point
	for {
		c, e := r.component()
		if e != api.OK {
			return nil, e
		}
		part, e := w.part(c)
		if e != api.OK {
			return nil, e
		}
		contours = append(contours, part...)
		if c.last {
			return contours, api.OK
		}
	}
}

// part answers a component's contours, where it has them. That there is no
// such glyph is not the caller's fault, but one of the bytes.
func (w *walk) part(c component) ([][]api.Point, api.Errno) {
	contours, e := w.outline(c.glyph)
	if e == api.ErrArg {
		return nil, api.ErrForm
	}
	for _, contour := range contours {
		for k, p := range contour {
			contour[k] = c.turned(p)
		}
	}
	return contours, e
}

// turned answers a point as the component has it.
func (c component) turned(p api.Point) api.Point {
	x, y := fixed.Whole(p.X), fixed.Whole(p.Y)
	return api.Point{
		X:  fixed.Round(fixed.Mul(c.xx, x)+fixed.Mul(c.xy, y)) + c.dx,
		Y:  fixed.Round(fixed.Mul(c.yx, x)+fixed.Mul(c.yy, y)) + c.dy,
		On: p.On,
	}
}

// component reads one component.
func (r *reader) component() (component, api.Errno) {
	flags, ok := r.u16()
	if !ok {
		return component{}, api.ErrShort
	}
	if flags&moved == 0 {
		return component{}, api.ErrForm
	}
	glyph, hasGlyph := r.u16()
	by, hasBy := r.arguments(flags)
	scales, hasScales := r.scales(flags)
	if !hasGlyph || !hasBy || !hasScales {
		return component{}, api.ErrShort
	}
	return component{
		glyph: glyph,
		xx:    scales[0], yx: scales[1], xy: scales[2], yy: scales[3],
		dx: by[0], dy: by[1],
		last: flags&another == 0,
	}, api.OK
}

// arguments reads how far a component is moved: along, and up.
func (r *reader) arguments(flags int) ([]int, bool) {
	if flags&inWords != 0 {
		return list(2, r.i16)
	}
	return list(2, r.i8)
}

// scales reads xx, yx, xy and yy of a component, as 16.16. Of several flags
// that tell how they are written the first one counts.
func (r *reader) scales(flags int) ([4]int, bool) {
	switch {
	case flags&oneScale != 0:
		s, ok := r.f14()
		return [4]int{s, 0, 0, s}, ok
	case flags&twoScales != 0:
		l, ok := list(2, r.f14)
		if !ok {
			return [4]int{}, false
		}
		return [4]int{l[0], 0, 0, l[1]}, true
	case flags&fourScales != 0:
		l, ok := list(4, r.f14)
		if !ok {
			return [4]int{}, false
		}
		return [4]int{l[0], l[1], l[2], l[3]}, true
	}
	return [4]int{api.One, 0, 0, api.One}, true
}

// f14 reads a number of two bytes that is written as 2.14, as 16.16.
func (r *reader) f14() (int, bool) {
	n, ok := r.i16()
	return fixed.From14(n), ok
}
