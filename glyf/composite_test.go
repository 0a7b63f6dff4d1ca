package glyf_test

import (
	"slices"
	"strconv"
	"testing"

	"versal/api"
	"versal/metric"
	"versal/sample"
)

// hook is a glyph of two contours, and hooked what it is.
var (
	hook   = simple([]int{1, 2}, 0, []byte{0x01, 0x00, 0x01}, sample.Words(10, -7, 300), sample.Words(-20, 25, 400))
	hooked = outline{{on(10, -20), off(3, 5)}, {on(303, 405)}}
)

// moved answers an outline with all its places that much farther.
func moved(l outline, dx, dy int) outline {
	var all outline
	for _, contour := range l {
		contour = slices.Clone(contour)
		for k := range contour {
			contour[k].X += dx
			contour[k].Y += dy
		}
		all = append(all, contour)
	}
	return all
}

// 16.2: a glyph of one component, and of several, one behind the other.
func TestComponents(t *testing.T) {
	is(t, "16.2", "one", hooked, plain(1), hook)
	is(t, "16.2", "the same one twice", slices.Concat(hooked, hooked), plain(1, 1), hook)
	is(t, "16.2", "one behind the other", slices.Concat(hooked, outline{{on(0, 0)}}, hooked), plain(1, 2, 1), hook, dots(1))
	is(t, "16.2", "in their order", slices.Concat(outline{{on(0, 0)}}, hooked), plain(2, 1), hook, dots(1))
}

// 16.2: any number of contours below 0 means components.
func TestBelowNone(t *testing.T) {
	for _, count := range []int{-1, -2, -3, -255, -256, -257, -32767, -32768} {
		b := plain(1)
		copy(b, sample.Words(count))
		is(t, "16.2", strconv.Itoa(count)+" contours", hooked, b, hook)
	}
}

// 16.2: arguments of a byte each, all of them.
func TestByBytes(t *testing.T) {
	for n := range 256 {
		x, y := int(int8(n)), int(int8(255-n))
		is(t, "16.2", "moved by bytes", moved(hooked, x, y), made(part(0x02, 1, []byte{byte(n), byte(255 - n)})), hook)
	}
}

// 16.2: arguments of two bytes each.
func TestByWords(t *testing.T) {
	for _, n := range []int{-32768, -32767, -256, -129, -1, 0, 1, 127, 128, 255, 256, 32766, 32767} {
		is(t, "16.2", "moved by words", moved(hooked, n, 0), made(part(0x03, 1, sample.Words(n, 0))), hook)
		is(t, "16.2", "moved by words", moved(hooked, 5, n), made(part(0x03, 1, sample.Words(5, n))), hook)
	}
}

// 16.2: the glyph's number is of two bytes.
func TestFarGlyphs(t *testing.T) {
	glyphs := make([][]byte, 65536)
	glyphs[0x1234], glyphs[0xff00], glyphs[0xffff] = dots(2), dots(3), hook
	glyphs[0] = made(part(0x22, 0x1234, []byte{0, 1}), part(0x22, 0xff00, []byte{2, 3}), part(0x02, 0xffff, []byte{4, 5}))
	is(t, "16.2", "far glyphs", slices.Concat(outline{{on(0, 1), on(0, 1)}, {on(2, 3), on(2, 3), on(2, 3)}}, moved(hooked, 4, 5)), glyphs...)
}

// 16.2: the three ways in which scales are written.
func TestScales(t *testing.T) {
	for what, c := range map[string]struct {
		part []byte
		want outline
	}{
		"one, a half":    {part(0x0a, 1, []byte{1, 2}, sample.Words(8192)), outline{{on(6, -8), off(3, 5)}, {on(153, 205)}}},
		"one, below 0":   {part(0x0a, 1, []byte{1, 2}, sample.Words(-16384)), outline{{on(-9, 22), off(-2, -3)}, {on(-302, -403)}}},
		"two":            {part(0x42, 1, []byte{0, 0}, sample.Words(-16384, 24576)), outline{{on(-10, -30), off(-3, 8)}, {on(-303, 608)}}},
		"four, a turn":   {part(0x82, 1, []byte{0, 0}, sample.Words(0, 16384, -16384, 0)), outline{{on(20, 10), off(-5, 3)}, {on(-405, 303)}}},
		"four, xx alone": {part(0x82, 1, []byte{0, 0}, sample.Words(16384, 0, 0, 0)), outline{{on(10, 0), off(3, 0)}, {on(303, 0)}}},
		"four, yx alone": {part(0x82, 1, []byte{0, 0}, sample.Words(0, 16384, 0, 0)), outline{{on(0, 10), off(0, 3)}, {on(0, 303)}}},
		"four, xy alone": {part(0x82, 1, []byte{0, 0}, sample.Words(0, 0, 16384, 0)), outline{{on(-20, 0), off(5, 0)}, {on(405, 0)}}},
		"four, yy alone": {part(0x82, 1, []byte{0, 0}, sample.Words(0, 0, 0, 16384)), outline{{on(0, -20), off(0, 5)}, {on(0, 405)}}},
		"four, words":    {part(0x83, 1, sample.Words(1000, -2000), sample.Words(16384, 16384, -16384, 16384)), outline{{on(1030, -2010), off(998, -1992)}, {on(898, -1292)}}},
		"one, 0":         {part(0x0b, 1, sample.Words(1000, -2000), sample.Words(0)), outline{{on(1000, -2000), off(1000, -2000)}, {on(1000, -2000)}}},
	} {
		is(t, "16.2", what, c.want, made(c.part), hook)
	}
}

// 16.2: of flags 3, 6 and 7 the first one that is set counts, and takes its
// own bytes and no more.
func TestFirstScaleCounts(t *testing.T) {
	scales := []int{4096, -8192, 12288, 20480}
	for bits := range 8 {
		flags, take := 0x02|bits&1<<3|bits>>1<<6, 0
		want := [4]int16{16384, 0, 0, 16384}
		switch {
		case bits&1 != 0:
			take, want = 1, [4]int16{4096, 0, 0, 4096}
		case bits&2 != 0:
			take, want = 2, [4]int16{4096, 0, 0, -8192}
		case bits&4 != 0:
			take, want = 4, [4]int16{4096, -8192, 12288, 20480}
		}
		first := part(flags, 1, []byte{0, 0}, sample.Words(scales[:take]...))
		is(t, "16.2", "flags "+strconv.Itoa(flags), turned(hooked, want, 0, 0), made(first), hook)
		for n := range first {
			wrong(t, "16.2", "flags "+strconv.Itoa(flags)+", cut off", api.ErrShort, made(first[:n]), hook)
		}
		first[1] |= 0x20
		is(t, "16.2", "another behind flags "+strconv.Itoa(flags), append(turned(hooked, want, 0, 0), moved(hooked, 7, 8)...),
			made(first, part(0x02, 1, []byte{7, 8})), hook)
	}
}

// 16.2: flags that nobody asks for change nothing.
func TestOtherFlags(t *testing.T) {
	for _, bit := range []int{2, 4, 8, 9, 10, 11, 12, 13, 14, 15} {
		b := made(part(0x22|1<<bit, 1, []byte{3, 4}), part(0x4a|1<<bit, 1, []byte{0, 0}, sample.Words(8192)), sample.Bytes(9, bit))
		is(t, "16.2", "bit "+strconv.Itoa(bit), moved(hooked, 3, 4), made(part(0x02|1<<bit, 1, []byte{3, 4})), hook)
		is(t, "16.2", "bit "+strconv.Itoa(bit), append(moved(hooked, 3, 4), turned(hooked, [4]int16{8192, 0, 0, 8192}, 0, 0)...), b, hook)
	}
	is(t, "16.2", "all of them", moved(hooked, 3, 4), made(part(0xff16, 1, []byte{3, 4})), hook)
}

// 16.2: places are rounded to the nearest whole number, of two that are as
// near to the greater one, below 0 too, ahead of the argument.
func TestRounded(t *testing.T) {
	dot := func(x, y int) []byte { return simple([]int{0}, 0, []byte{0x01}, sample.Words(x, y)) }
	for _, c := range []struct{ place, scale, want int }{
		{1, 8192, 1}, {-1, 8192, 0}, {3, 8192, 2}, {-3, 8192, -1}, {1, -8192, 0}, {-1, -8192, 1},
		{1, 8191, 0}, {-1, 8191, 0}, {1, 8193, 1}, {-1, 8193, -1}, {5, 4096, 1}, {6, 4096, 2}, {7, 4096, 2}, {-5, 4096, -1}, {-6, 4096, -1}, {-7, 4096, -2},
		{8191, 1, 0}, {8192, 1, 1}, {8193, 1, 1}, {-8191, 1, 0}, {-8192, 1, 0}, {-8193, 1, -1}, {8192, -1, 0}, {-8192, -1, 1},
		{32767, 32767, 65534 - 2}, {-32768, -32768, 32768}, {32767, -32768, -32768}, {-32768, 32767, -32768}, {100, -32768, -200}, {16383, 32767, 32765}, {1, 32767, 2},
	} {
		want := min(c.want, 32768)
		is(t, "16.2", strconv.Itoa(c.place)+" times "+strconv.Itoa(c.scale), outline{{on(want+9, -7)}}, made(part(0x42, 1, []byte{9, 0xf9}, sample.Words(c.scale, 16384))), dot(c.place, 0))
		is(t, "16.2", strconv.Itoa(c.place)+" times "+strconv.Itoa(c.scale), outline{{on(9, want-7)}}, made(part(0x42, 1, []byte{9, 0xf9}, sample.Words(16384, c.scale))), dot(0, c.place))
	}
	// two halves are brought together ahead of being rounded
	is(t, "16.2", "a half and a half", outline{{on(1, 0)}}, made(part(0x82, 1, []byte{0, 0}, sample.Words(8192, -8192, 8192, 8192))), dot(1, 1))
}

// 16.2: each scale of 2.14 by places at and about their ends.
func TestAllScales(t *testing.T) {
	var points []api.Point
	for _, x := range []int{-16384, -4096, -3, -1, 0, 1, 2, 5, 4095, 16383} {
		for _, y := range []int{-16384, -1, 0, 1, 2048, 16383} {
			points = append(points, on(x, y))
		}
	}
	glyph := drawn(outline{points}, sample.Source(1))
	for scale := -32768; scale <= 32767; scale += 37 {
		s := int16(scale)
		is(t, "16.2", "a scale", turned(outline{points}, [4]int16{s, 0, 0, s}, 1, -1), made(part(0x0a, 1, []byte{1, 0xff}, sample.Words(scale))), glyph)
		is(t, "16.2", "four scales", turned(outline{points}, [4]int16{s, ^s, s ^ 5, s / 3}, 0, 0), made(part(0x82, 1, []byte{0, 0}, sample.Words(scale, int(^s), int(s^5), int(s/3)))), glyph)
	}
}

// 16.2: a component's places go by numbers of 16.16, and so no farther than
// these; what it is moved by comes behind, and is not brought within anything.
func TestFarComponents(t *testing.T) {
	far := simple([]int{2}, 0, []byte{0x09, 2}, sample.Words(32767, 32767, 32767), sample.Words(-32768, -32768, -32768))
	is(t, "16.2", "as it is", outline{{on(32767, -32768), on(32768, -32768), on(32768, -32768)}}, plain(1), far)
	is(t, "16.2", "moved", outline{{on(65534, -65536), on(65535, -65536), on(65535, -65536)}}, made(part(0x03, 1, sample.Words(32767, -32768))), far)
	is(t, "16.2", "a half of it", outline{{on(16384, -16384), on(16384, -16384), on(16384, -16384)}}, made(part(0x0a, 1, []byte{0, 0}, sample.Words(8192))), far)
	is(t, "16.2", "twice", outline{{on(32768, 32768), on(32768, 32768), on(32768, 32768)}}, made(part(0x42, 1, []byte{0, 0}, sample.Words(32767, -32768))), far)
	// each product is brought within, and then their sum
	is(t, "16.2", "one against the other", outline{{on(0, -32768), on(0, -32768), on(0, -32768)}}, made(part(0x82, 1, []byte{0, 0}, sample.Words(32767, -32768, 32767, 32767))), far)
	is(t, "16.2", "one and the other", outline{{on(32768, -1), on(32768, 0), on(32768, 0)}}, made(part(0x82, 1, []byte{0, 0}, sample.Words(16384, 16384, -16384, 16384))), far)
}

// 16.2: components of components are turned and rounded one by one, from the
// inmost outwards.
func TestComponentsOfComponents(t *testing.T) {
	half := func(glyph int, by ...byte) []byte { return made(part(0x0a, glyph, by, sample.Words(8192))) }
	is(t, "16.2", "a half of a half", outline{{on(3, -5), off(1, 2)}, {on(76, 102)}}, half(1, 0, 0), half(2, 0, 0), hook)
	is(t, "16.2", "moved within", outline{{on(28, 20), off(26, 27)}, {on(101, 127)}}, half(1, 20, 20), half(2, 10, 10), hook)
	is(t, "16.2", "turned behind being moved", outline{{on(-40, 110), off(-65, 103)}, {on(-465, 403)}},
		made(part(0x82, 1, []byte{0, 0}, sample.Words(0, 16384, -16384, 0))), made(part(0x02, 2, []byte{100, 60})), hook)
	is(t, "16.2", "four deep, and beside one another",
		slices.Concat(moved(hooked, 6, 6), moved(hooked, 4, 4), moved(hooked, 1, 1), hooked),
		made(part(0x22, 1, []byte{1, 1}), part(0x02, 4, []byte{0, 0})),
		made(part(0x22, 2, []byte{2, 2}), part(0x02, 4, []byte{0, 0})),
		made(part(0x22, 3, []byte{2, 2}), part(0x02, 4, []byte{1, 1})),
		made(part(0x02, 4, []byte{1, 1})), hook)
}

// 16.2: flag 1 has to be set, and what is behind the flags is not asked for.
func TestFlagOne(t *testing.T) {
	for flags := range 256 {
		code := api.ErrForm
		if flags&2 != 0 {
			code = api.ErrShort
		}
		wrong(t, "16.2", "flags alone", code, made(sample.Words(flags)), hook)
		wrong(t, "16.2", "flags alone", code, made(sample.Words(flags|0xff00)), hook)
	}
	wrong(t, "16.2", "points as arguments", api.ErrForm, made(part(0x00, 1, []byte{0, 0})), hook)
	wrong(t, "16.2", "of the second one", api.ErrForm, made(part(0x22, 1, []byte{0, 0}), part(0x20, 1, []byte{0, 0})), hook)
	wrong(t, "16.2", "of one within", api.ErrForm, plain(1), made(part(0x20, 1, []byte{0, 0})), hook)
}

// 16.2: components that are cut off at any byte end too early; what is behind
// the last one means nothing.
func TestComponentsCutOff(t *testing.T) {
	for _, last := range [][]byte{part(0x02, 1, []byte{1, 2}), part(0x03, 1, sample.Words(3, 4)), part(0x0a, 1, []byte{5, 6}, sample.Words(7)), part(0x43, 1, sample.Words(8, 9, 10, 11)), part(0x83, 1, sample.Words(1, 2, 3, 4, 5, 6))} {
		b := made(part(0x23, 1, sample.Words(1000, -2000)), part(0x2a, 1, []byte{1, 2}, sample.Words(8192)), part(0x62, 1, []byte{0, 0}, sample.Words(-16384, 3)), part(0xa3, 1, make([]byte, 12)), last)
		f, m := of(t, b, hook)
		want, e := expected(f, m, 0)
		if e != api.OK || len(want) != 10 {
			t.Fatalf("error %d", e)
		}
		is(t, "16.2", "whole", want, b, hook)
		is(t, "16.2", "with bytes behind", want, slices.Concat(b, sample.Bytes(9, 1)), hook)
		for n := 1; n < len(b); n++ {
			wrong(t, "16.2", "cut off at "+strconv.Itoa(n), api.ErrShort, b[:n], hook)
		}
	}
}

// 16.2: a component without bytes, or without contours, adds nothing.
func TestEmptyComponents(t *testing.T) {
	is(t, "16.2", "no bytes", nil, plain(1), nil)
	is(t, "16.2", "no contours", nil, plain(1), make([]byte, 10))
	is(t, "16.2", "among others", slices.Concat(hooked, hooked), plain(2, 1, 3, 1, 2), hook, nil, make([]byte, 12))
	is(t, "16.2", "a component of none", hooked, plain(2, 1), hook, plain(3, 3), nil)
}

// 16.2: what a component's glyph tells is told; a glyph that is none is
// malformed.
func TestErrorsOfComponents(t *testing.T) {
	wrong(t, "16.2", "no glyph", api.ErrForm, plain(1))
	wrong(t, "16.2", "no glyph", api.ErrForm, plain(65535), hook)
	wrong(t, "16.2", "no glyph within", api.ErrForm, plain(1), plain(2, 3), hook)
	wrong(t, "16.2", "too short", api.ErrShort, plain(1), make([]byte, 9))
	wrong(t, "16.2", "too short, the second one", api.ErrShort, plain(1, 2), hook, hook[:20])
	wrong(t, "16.2", "malformed", api.ErrForm, plain(1), simple([]int{1, 1}, 0))
	wrong(t, "16.2", "too many points", api.ErrBudget, plain(1), dots(401))
	b := slices.Concat(plain(1), hook)
	for what, c := range map[string]struct {
		loca   []byte
		glyphs int
		code   api.Errno
	}{
		"no glyph by the Metric": {sample.Longs(0, len(plain(1)), len(b)), 1, api.ErrForm},
		"no entry":               {sample.Longs(0, len(plain(1))), 2, api.ErrShort},
		"entries fall":           {sample.Longs(0, len(plain(1)), 1), 2, api.ErrForm},
		"entries beyond":         {sample.Longs(0, len(plain(1)), len(b)+1), 2, api.ErrForm},
		"all of it":              {sample.Longs(0, len(plain(1)), len(b)), 2, api.OK},
	} {
		f := sample.Font(map[string][]byte{"glyf": b, "loca": c.loca})
		var want outline
		if c.code == api.OK {
			want = hooked
		}
		hold(t, "16.2", what, f, metric.Metric{Glyphs: c.glyphs, Long: true}, 0, want, c.code)
	}
}
