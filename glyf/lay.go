package glyf

import (
	"slices"

	"versal/api"
)

// What two bytes may tell, signed.
const (
	leastWord = -32768
	mostWord  = 32767
)

// Lay answers the bytes of a simple glyph of these contours.
func Lay(contours [][]api.Point) ([]byte, api.Errno) {
	if len(contours) == 0 {
		return nil, api.OK
	}
	points, ends, ok := joined(contours)
	if !ok {
		return nil, api.ErrArg
	}
	var xs, ys []int
	flags := make([]byte, len(points))
	for k, p := range points {
		xs, ys = append(xs, p.X), append(ys, p.Y)
		if p.On {
			flags[k] = onCurve
		}
	}
	along, mayX := steps(xs)
	up, mayY := steps(ys)
	if !mayX || !mayY {
		return nil, api.ErrArg
	}
	head, passed := words(len(ends), 0, 0, 0, 0), words(0)
	return slices.Concat(head, words(ends...), passed, flags, words(along...), words(up...)), api.OK
}

// joined answers the points of all contours, one behind the other, and the
// place of each contour's last one, if an outline may have such contours.
func joined(contours [][]api.Point) (points []api.Point, ends []int, ok bool) {
	for _, contour := range contours {
		if len(contour) == 0 || len(contour) > api.MaxPoints-len(points) {
			return nil, nil, false
		}
		points = append(points, contour...)
		ends = append(ends, len(points)-1)
	}
	return points, ends, true
}

// steps answers how far it is to each place from the one ahead, if all places
// and steps may be told by two bytes.
func steps(places []int) ([]int, bool) {
	var steps []int
	ahead := 0
	for _, at := range places {
		if !isWord(at) || !isWord(at-ahead) {
			return nil, false
		}
		steps = append(steps, at-ahead)
		ahead = at
	}
	return steps, true
}

// isWord tells whether two bytes may tell n.
func isWord(n int) bool {
	return n >= leastWord && n <= mostWord
}

// words answers numbers of two bytes each, the higher one first.
func words(numbers ...int) []byte {
	var b []byte
	for _, n := range numbers {
		b = append(b, byte(n>>8), byte(n))
	}
	return b
}
