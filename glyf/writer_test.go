package glyf_test

import (
	"testing"

	"versal/api"
	"versal/sample"
)

// drawn answers the bytes of a simple glyph of these contours, each step told
// in one of the ways that it may be, and flags that are alike as one or as
// several.
func drawn(l outline, pick func(n int) int) []byte {
	var ends []int
	var flags, xs, ys []byte
	x, y := 0, 0
	for _, contour := range l {
		for _, p := range contour {
			alongFlag, along := told(p.X-x, pick)
			upFlag, up := told(p.Y-y, pick)
			flag := alongFlag<<1 | upFlag<<2 | byte(pick(4))<<6
			if p.On {
				flag |= 1
			}
			flags, xs, ys = append(flags, flag), append(xs, along...), append(ys, up...)
			x, y = p.X, p.Y
		}
		ends = append(ends, len(flags)-1)
	}
	return simple(ends, pick(2)*pick(30), again(flags, pick), xs, ys)
}

// told answers a flag's bits of one step, as those of x less one, and its bytes.
func told(step int, pick func(n int) int) (byte, []byte) {
	ways := []int{0}
	if step == 0 {
		ways = append(ways, 1)
	}
	if step >= 0 && step < 256 {
		ways = append(ways, 2, 2, 2)
	}
	if step <= 0 && step > -256 {
		ways = append(ways, 3, 3, 3)
	}
	switch ways[pick(len(ways))] {
	case 1:
		return 0x08, nil
	case 2:
		return 0x09, []byte{byte(step)}
	case 3:
		return 0x01, []byte{byte(-step)}
	}
	return 0, sample.Words(step)
}

// again answers flags as they may be written: those that are alike as one that
// is repeated, or as several.
func again(flags []byte, pick func(n int) int) []byte {
	var b []byte
	for at := 0; at < len(flags); {
		more := 0
		for at+more+1 < len(flags) && more < 255 && flags[at+more+1] == flags[at] && pick(9) > 0 {
			more++
		}
		if more > 0 || pick(9) == 0 {
			b = append(b, flags[at]|0x08, byte(more))
		} else {
			b = append(b, flags[at])
		}
		at += more + 1
	}
	return b
}

// someContours answers contours whose places and steps two bytes may tell.
func someContours(pick func(n int) int) outline {
	reach := []int{2, 100, 600, 16384}[pick(4)]
	var l outline
	for range 1 + pick(4) {
		var contour []api.Point
		for range 1 + pick(9) {
			contour = append(contour, api.Point{X: pick(2*reach) - reach, Y: pick(2*reach) - reach, On: pick(2) == 0})
		}
		l = append(l, contour)
	}
	return l
}

// 16.1: contours in whatever way they are written.
func TestWritten(t *testing.T) {
	for seed := range 20000 {
		pick := sample.Source(seed)
		l := someContours(pick)
		is(t, "16.1", "written", l, drawn(l, pick))
	}
}
