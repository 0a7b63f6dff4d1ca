package glyf

import "versal/api"

// Of a point's flag. What tells that a long step is the same as the one ahead
// (there are no bytes of it) tells of a short one that it is not below 0.
const (
	onCurve  = 1 << 0
	shortX   = 1 << 1
	shortY   = 1 << 2
	repeated = 1 << 3
	sameX    = 1 << 4
	sameY    = 1 << 5
)

// simple answers the contours of a glyph that has so many of its own: the
// points of all of them stand one behind the other, first what kind each is,
// then how far each is along, then how far up.
func (w *walk) simple(r *reader, count int) ([][]api.Point, api.Errno) {
	ends, e := r.ends(count)
	if e != api.OK {
		return nil, e
	}
	points := ends[count-1] + 1
	if points > api.MaxPoints-w.points {
		return nil, api.ErrBudget
	}
	w.points += points
	passed, ok := r.u16()
	if !ok || !r.pass(passed) {
		return nil, api.ErrShort
	}
	flags, e := r.flags(points)
	if e != api.OK {
		return nil, e
	}
	xs, hasXs := r.places(flags, shortX, sameX)
	ys, hasYs := r.places(flags, shortY, sameY)
	if !hasXs || !hasYs {
		return nil, api.ErrShort
	}
	return parted(ends, flags, xs, ys), api.OK
}

// ends reads the last point of each contour.
func (r *reader) ends(count int) ([]int, api.Errno) {
	ends, ok := list(count, r.u16)
	if !ok {
		return nil, api.ErrShort
	}
	for k := 1; k < count; k++ {
		if ends[k] <= ends[k-1] {
			return nil, api.ErrForm
		}
	}
	return ends, api.OK
}

// flags reads the flag of each point. One may serve points behind it, too.
func (r *reader) flags(points int) ([]int, api.Errno) {
	flags := make([]int, 0, points)
	for len(flags) < points {
		flag, ok := r.u8()
		if !ok {
			return nil, api.ErrShort
		}
		more := 0
		if flag&repeated != 0 {
			more, ok = r.u8()
		}
		if !ok {
			return nil, api.ErrShort
		}
		if len(flags)+1+more > points {
			return nil, api.ErrForm
		}
		for range 1 + more {
			flags = append(flags, flag)
		}
	}
	return flags, api.OK
}

// places reads where along one axis each point is: each step leads on from the
// point ahead, however far.
func (r *reader) places(flags []int, short, same int) ([]int, bool) {
	places := make([]int, 0, len(flags))
	at := 0
	for _, flag := range flags {
		step, ok := r.step(flag&short != 0, flag&same != 0)
		if !ok {
			return nil, false
		}
		at += step
		places = append(places, at)
	}
	return places, true
}

// step reads one step along one axis.
func (r *reader) step(short, same bool) (int, bool) {
	switch {
	case short && same:
		return r.u8()
	case short:
		n, ok := r.u8()
		return -n, ok
	case same:
		return 0, true
	}
	return r.i16()
}

// parted answers the points contour by contour, each on memory of its own.
func parted(ends, flags, xs, ys []int) [][]api.Point {
	contours := make([][]api.Point, 0, len(ends))
	from := 0
	for _, end := range ends {
		contour := make([]api.Point, 0, end+1-from)
		for k := from; k <= end; k++ {
			contour = append(contour, api.Point{X: xs[k], Y: ys[k], On: flags[k]&onCurve != 0})
		}
		contours = append(contours, contour)
		from = end + 1
	}
	return contours
}
