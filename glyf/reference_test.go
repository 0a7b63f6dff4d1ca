package glyf_test

import (
	"bytes"
	"encoding/binary"
	"slices"
	"testing"

	"versal/api"
	"versal/glyf"
	"versal/metric"
	"versal/sample"
	"versal/sfnt"
)

// on and off are points on the curve and off it.
func on(x, y int) api.Point  { return api.Point{X: x, Y: y, On: true} }
func off(x, y int) api.Point { return api.Point{X: x, Y: y} }

// outline is a list of contours.
type outline = [][]api.Point

// of answers a font of these glyphs' bytes, and what it tells of them all.
func of(t *testing.T, glyphs ...[]byte) (*sfnt.Font, metric.Metric) {
	t.Helper()
	f := sample.Font(sample.Glyphs(glyphs...))
	if f == nil {
		t.Fatal("no font of these glyphs")
	}
	return f, metric.Metric{Units: 1000, Glyphs: len(glyphs), Long: true}
}

// simple answers the bytes of a glyph whose contours end at these points, with
// so many bytes that are passed over, and what is behind them.
func simple(ends []int, passed int, behind ...[]byte) []byte {
	return slices.Concat(sample.Words(len(ends), 9, 8, 7, 6), sample.Words(ends...), sample.Words(passed), sample.Bytes(passed, passed), slices.Concat(behind...))
}

// made answers the bytes of a glyph of these components.
func made(parts ...[]byte) []byte {
	return slices.Concat(sample.Words(-1, 5, 4, 3, 2), slices.Concat(parts...))
}

// part answers the bytes of a component.
func part(flags, glyph int, behind ...[]byte) []byte {
	return slices.Concat(sample.Words(flags, glyph), slices.Concat(behind...))
}

// plain answers components that are their glyphs as they are.
func plain(glyphs ...int) []byte {
	var b []byte
	for k, glyph := range glyphs {
		flags := 0x22
		if k == len(glyphs)-1 {
			flags = 0x02
		}
		b = append(b, part(flags, glyph, []byte{0, 0})...)
	}
	return made(b)
}

// dots answers the bytes of a glyph of so many points at 0 in one contour.
func dots(points int) []byte {
	var flags []byte
	for left := points; left > 0; left -= 256 {
		flags = append(flags, 0x39, byte(min(left, 256)-1))
	}
	return simple([]int{points - 1}, 0, flags)
}

// reading is a second way to read a glyph: an error leaves all of it at once,
// each glyph knows the way that led to it, and the library reads the numbers.
type reading struct {
	font          *sfnt.Font
	metric        metric.Metric
	begun, points int
}

// expected is 16.1 and 16.2 said another way.
func expected(f *sfnt.Font, m metric.Metric, glyph int) (contours outline, e api.Errno) {
	defer func() {
		switch told := recover().(type) {
		case nil:
		case api.Errno:
			contours, e = nil, told
		default:
			panic(told)
		}
	}()
	r := &reading{font: f, metric: m}
	return r.glyph(nil, glyph), api.OK
}

// glyph reads a glyph to which this way led.
func (r *reading) glyph(way []int, glyph int) outline {
	for _, k := range way {
		if k == glyph {
			panic(api.ErrCycle)
		}
	}
	way = append(slices.Clone(way), glyph)
	r.begun++
	if len(way) == 7 || r.begun == 1001 {
		panic(api.ErrBudget)
	}
	from, to, e := metric.Range(r.font, r.metric, glyph)
	switch {
	case e == api.ErrArg && len(way) > 1:
		panic(api.ErrForm)
	case e != api.OK:
		panic(e)
	case to == from:
		return nil
	}
	all, _ := r.font.Table("glyf")
	b := bytes.NewReader(all[from:to])
	var head struct {
		Contours int16
		Box      [4]int16
	}
	read(b, &head)
	if head.Contours < 0 {
		return r.composite(way, b)
	}
	if head.Contours == 0 {
		return nil
	}
	return r.simple(b, make([]uint16, head.Contours))
}

// read fills a value with what is next.
func read(b *bytes.Reader, into any) {
	if binary.Read(b, binary.BigEndian, into) != nil {
		panic(api.ErrShort)
	}
}

// one reads a value of a kind.
func one[T any](b *bytes.Reader) T {
	var value T
	read(b, &value)
	return value
}

// simple reads a glyph of contours of its own, as many as ends is long.
func (r *reading) simple(b *bytes.Reader, ends []uint16) outline {
	read(b, ends)
	if !slices.Equal(ends, slices.Compact(slices.Sorted(slices.Values(ends)))) {
		panic(api.ErrForm)
	}
	count := int(slices.Max(ends)) + 1
	if r.points += count; r.points > 400 {
		panic(api.ErrBudget)
	}
	read(b, make([]byte, one[uint16](b)))
	var flags []byte
	for len(flags) < count {
		flag := one[uint8](b)
		if times := 1; flag>>3&1 == 1 {
			times += int(one[uint8](b))
			flags = append(flags, bytes.Repeat([]byte{flag}, times)...)
			continue
		}
		flags = append(flags, flag)
	}
	if len(flags) > count {
		panic(api.ErrForm)
	}
	along := steps(b, flags)
	for k, flag := range flags {
		flags[k] = flag&1 | flag>>1&^1
	}
	up := steps(b, flags)
	contours, contour := outline{}, []api.Point{}
	at := api.Point{}
	for k, flag := range flags {
		at = api.Point{X: at.X + along[k], Y: at.Y + up[k], On: flag&1 == 1}
		contour = append(contour, at)
		if slices.Contains(ends, uint16(k)) {
			contours, contour = append(contours, contour), nil
		}
	}
	return contours
}

// steps reads the steps of one axis by bits 1 and 4 of the flags.
func steps(b *bytes.Reader, flags []byte) []int {
	var all []int
	for _, flag := range flags {
		step := 0
		switch flag & 0x12 {
		case 0x12:
			step = int(one[uint8](b))
		case 0x02:
			step = -int(one[uint8](b))
		case 0x00:
			step = int(one[int16](b))
		}
		all = append(all, step)
	}
	return all
}

// composite reads a glyph of components.
func (r *reading) composite(way []int, b *bytes.Reader) outline {
	flags := one[uint16](b)
	if flags%4 < 2 {
		panic(api.ErrForm)
	}
	glyph := int(one[uint16](b))
	var dx, dy int
	if flags%2 == 1 {
		l := one[[2]int16](b)
		dx, dy = int(l[0]), int(l[1])
	} else {
		l := one[[2]int8](b)
		dx, dy = int(l[0]), int(l[1])
	}
	scales := [4]int16{1 << 14, 0, 0, 1 << 14}
	if flags>>3%2 == 1 {
		s := one[int16](b)
		scales = [4]int16{s, 0, 0, s}
	} else if flags>>6%2 == 1 {
		l := one[[2]int16](b)
		scales = [4]int16{l[0], 0, 0, l[1]}
	} else if flags>>7%2 == 1 {
		scales = one[[4]int16](b)
	}
	contours := turned(r.glyph(way, glyph), scales, dx, dy)
	if flags>>5%2 == 1 {
		contours = append(contours, r.composite(way, b)...)
	}
	return contours
}

// turned is what a component makes of contours.
func turned(contours outline, scales [4]int16, dx, dy int) outline {
	var all outline
	for _, contour := range contours {
		var l []api.Point
		for _, p := range contour {
			x, y := clip(p.X<<16), clip(p.Y<<16)
			l = append(l, api.Point{
				X:  whole(times(scales[0], x)+times(scales[2], y)) + dx,
				Y:  whole(times(scales[1], x)+times(scales[3], y)) + dy,
				On: p.On,
			})
		}
		all = append(all, l)
	}
	return all
}

// clip brings n within what a number of 16.16 may be.
func clip(n int) int { return max(-(1<<31 - 1), min(1<<31-1, n)) }

// times is a number of 2.14 times one of 16.16.
func times(scale int16, n int) int { return clip((4*int(scale)*n + 1<<15) >> 16) }

// whole is the whole number that is nearest to one of 16.16.
func whole(n int) int { return (clip(n) + 1<<15) >> 16 }

// same tells whether two outlines have the same points.
func same(a, b outline) bool {
	return slices.EqualFunc(a, b, func(x, y []api.Point) bool { return slices.Equal(x, y) })
}

// hold holds a glyph's outline, twice.
func hold(t *testing.T, promise, what string, f *sfnt.Font, m metric.Metric, glyph int, want outline, code api.Errno) {
	t.Helper()
	for range 2 {
		got, e := glyf.Outline(f, m, glyph)
		if e != code {
			t.Fatalf("%s: %s: glyph %d: error %d, not %d", promise, what, glyph, e, code)
		}
		if e != api.OK && len(got) != 0 {
			t.Fatalf("R3: %s: glyph %d: %v beside error %d", what, glyph, got, e)
		}
		if !same(got, want) {
			t.Fatalf("%s: %s: glyph %d: %v, not %v", promise, what, glyph, got, want)
		}
	}
}

// is holds the outline of the first of these glyphs.
func is(t *testing.T, promise, what string, want outline, glyphs ...[]byte) {
	t.Helper()
	f, m := of(t, glyphs...)
	hold(t, promise, what, f, m, 0, want, api.OK)
}

// wrong holds the error of the first of these glyphs.
func wrong(t *testing.T, promise, what string, code api.Errno, glyphs ...[]byte) {
	t.Helper()
	f, m := of(t, glyphs...)
	hold(t, promise, what, f, m, 0, nil, code)
}
