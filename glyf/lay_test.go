package glyf_test

import (
	"bytes"
	"math"
	"slices"
	"testing"

	"versal/api"
	"versal/glyf"
	"versal/sample"
)

// laid holds what Lay answers, twice.
func laid(t *testing.T, what string, l outline, want []byte, code api.Errno) {
	t.Helper()
	for range 2 {
		b, e := glyf.Lay(l)
		if e != code {
			t.Fatalf("16.3: %s: error %d, not %d", what, e, code)
		}
		if e != api.OK && len(b) != 0 {
			t.Fatalf("R3: %s: %x beside error %d", what, b, e)
		}
		if !bytes.Equal(b, want) {
			t.Fatalf("16.3: %s: %x, not %x", what, b, want)
		}
	}
}

// expectedLay is 16.3 said another way: all numbers are told first, and then
// asked whether two bytes have room for them.
func expectedLay(l outline) ([]byte, api.Errno) {
	if len(l) == 0 {
		return nil, api.OK
	}
	all := slices.Concat(l...)
	numbers := []int{len(l), 0, 0, 0, 0}
	far := 0
	for _, contour := range l {
		far += len(contour)
		numbers = append(numbers, far-1)
		if len(contour) == 0 || far > 400 {
			return nil, api.ErrArg
		}
	}
	flags := len(numbers) + 1
	numbers = append(numbers, 0)
	ahead := api.Point{}
	for _, p := range all {
		numbers = append(numbers, p.X-ahead.X)
		ahead = p
	}
	ahead = api.Point{}
	for _, p := range all {
		numbers = append(numbers, p.Y-ahead.Y)
		ahead = p
	}
	var b []byte
	for k, n := range numbers {
		if k == flags {
			b = append(b, curves(all)...)
		}
		if n != int(int16(n)) {
			return nil, api.ErrArg
		}
		b = append(b, byte(uint16(n)>>8), byte(n))
	}
	for _, p := range all {
		if p.X != int(int16(p.X)) || p.Y != int(int16(p.Y)) {
			return nil, api.ErrArg
		}
	}
	return b, api.OK
}

// curves answers for each point 1 on the curve and 0 off it.
func curves(points []api.Point) []byte {
	var b []byte
	for _, p := range points {
		n := byte(0)
		if p.On {
			n++
		}
		b = append(b, n)
	}
	return b
}

// back holds that Outline reads what was laid.
func back(t *testing.T, what string, l outline) {
	t.Helper()
	b, e := glyf.Lay(l)
	if e != api.OK {
		t.Fatalf("16.3: %s: error %d", what, e)
	}
	is(t, "16.3", what, l, b)
}

// 16.3: glyphs written out.
func TestLay(t *testing.T) {
	laid(t, "a point", outline{{on(3, -4)}}, slices.Concat(sample.Words(1, 0, 0, 0, 0), sample.Words(0), sample.Words(0), []byte{1}, sample.Words(3), sample.Words(-4)), api.OK)
	laid(t, "a point at 0, off the curve", outline{{off(0, 0)}}, slices.Concat(sample.Words(1, 0, 0, 0, 0), sample.Words(0), sample.Words(0), []byte{0}, sample.Words(0), sample.Words(0)), api.OK)
	laid(t, "two contours", outline{{on(300, 5), off(301, 5)}, {off(0, -1000), on(7, 7), on(7, 8)}},
		slices.Concat(sample.Words(2, 0, 0, 0, 0), sample.Words(1, 4), sample.Words(0), []byte{1, 0, 0, 1, 1}, sample.Words(300, 1, -301, 7, 0), sample.Words(5, 0, -1005, 1007, 1)), api.OK)
}

// 16.3: of no contours no bytes.
func TestLayOfNone(t *testing.T) {
	laid(t, "nil", nil, nil, api.OK)
	laid(t, "no contours", outline{}, nil, api.OK)
	is(t, "16.3", "no contours", nil, nil)
}

// 16.3: a contour without points, wherever it stands.
func TestContourWithoutPoints(t *testing.T) {
	for _, l := range []outline{{nil}, {{}}, {nil, nil}, {{on(0, 0)}, nil}, {nil, {on(0, 0)}}, {{on(0, 0)}, {}, {on(0, 0)}}} {
		laid(t, "a contour without points", l, nil, api.ErrArg)
	}
	laid(t, "many of them", make(outline, 70000), nil, api.ErrArg)
	laid(t, "behind all points that may be", outline{slices.Repeat([]api.Point{on(0, 0)}, 400), nil}, nil, api.ErrArg)
}

// 16.3: MaxPoints points and one more, in one contour and in several.
func TestLayMostPoints(t *testing.T) {
	stay := func(n int) []api.Point { return slices.Repeat([]api.Point{on(1, -1)}, n) }
	for _, l := range []outline{{stay(400)}, {stay(1), stay(399)}, {stay(399), stay(1)}, {stay(100), stay(299), stay(1)}} {
		back(t, "the most points", l)
		laid(t, "one more", append(slices.Clone(l), stay(1)), nil, api.ErrArg)
		l[len(l)-1] = append(l[len(l)-1], on(0, 0))
		laid(t, "one more", l, nil, api.ErrArg)
	}
	one := slices.Repeat(outline{stay(1)}, 400)
	back(t, "the most contours", one)
	laid(t, "one contour more", append(one, stay(1)), nil, api.ErrArg)
	laid(t, "far more", outline{stay(1 << 16)}, nil, api.ErrArg)
	laid(t, "far more contours", slices.Repeat(one, 200), nil, api.ErrArg)
}

// 16.3: places and steps at and beyond the ends of two bytes, on each axis, in
// one contour and from one to the next.
func TestLayEnds(t *testing.T) {
	ends := []int{math.MinInt, math.MinInt + 1, -1 << 48, -65536, -65535, -32769, -32768, -32767, -16385, -16384, -1, 0, 1, 16383, 16384, 32766, 32767, 32768, 65535, 65536, 1 << 48, math.MaxInt - 1, math.MaxInt}
	fits := func(n int) bool { return n >= -32768 && n <= 32767 }
	for _, a := range ends {
		for _, b := range ends {
			for k, l := range []outline{{{on(a, 0), on(b, 0)}}, {{on(0, a), on(0, b)}}, {{on(a, 3)}, {off(b, 3)}}, {{on(3, a)}, {off(3, b)}}} {
				if fits(a) && fits(b) && fits(b-a) {
					back(t, "ends", l)
					continue
				}
				if _, e := glyf.Lay(l); e != api.ErrArg {
					t.Fatalf("16.3: from %d to %d in way %d: error %d", a, b, k, e)
				}
				laid(t, "beyond", l, nil, api.ErrArg)
			}
		}
	}
}

// 16.3: contours of all kinds, held against another way to lay them, and read
// again.
func TestLayMany(t *testing.T) {
	told := make(map[api.Errno]int)
	for seed := range 20000 {
		pick := sample.Source(seed)
		l := someContours(pick)
		for range pick(3) {
			contour := l[pick(len(l))]
			if len(contour) == 0 {
				continue
			}
			p := &contour[pick(len(contour))]
			switch pick(6) {
			case 0:
				p.X = []int{-32769, -32768, 32767, 32768}[pick(4)]
			case 1:
				p.Y = []int{-32769, -32768, 32767, 32768}[pick(4)]
			case 2:
				l[pick(len(l))] = nil
			case 3:
				l = append(l, slices.Repeat([]api.Point{*p}, 300+pick(110)))
			}
		}
		want, e := expectedLay(l)
		laid(t, "many", l, want, e)
		if e == api.OK {
			back(t, "many", l)
		}
		told[e]++
	}
	if told[api.OK] < 2000 || told[api.ErrArg] < 2000 {
		t.Errorf("errors %v", told)
	}
}
