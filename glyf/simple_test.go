package glyf_test

import (
	"math"
	"slices"
	"strconv"
	"testing"

	"versal/api"
	"versal/metric"
	"versal/sample"
)

// 16.1: a glyph without bytes has no contours, wherever it stands.
func TestNoBytes(t *testing.T) {
	is(t, "16.1", "no bytes", nil, nil)
	f, m := of(t, nil, dots(1), nil, nil, dots(2), nil)
	for _, k := range []int{0, 2, 3, 5} {
		hold(t, "16.1", "no bytes", f, m, k, nil, api.OK)
	}
	hold(t, "16.1", "bytes beside none", f, m, 1, outline{{on(0, 0)}}, api.OK)
	hold(t, "16.1", "bytes beside none", f, m, 4, outline{{on(0, 0), on(0, 0)}}, api.OK)
}

// 16.1: entries of loca of either kind lead to a glyph.
func TestShortEntries(t *testing.T) {
	b := simple([]int{2}, 1, []byte{0x37, 0x35, 0x33}, []byte{1, 2}, []byte{3, 4}, []byte{5, 6, 0})
	if len(b)%2 != 0 {
		b = append(b, 0)
	}
	f := sample.Font(map[string][]byte{"glyf": slices.Concat(b, b), "loca": sample.Words(0, len(b)/2, len(b))})
	for k := range 2 {
		hold(t, "16.1", "short entries", f, metric.Metric{Glyphs: 2}, k, outline{{on(1, 3), on(1, 7), on(3, 7)}}, api.OK)
	}
}

// 16.1: what Range tells against a glyph is told.
func TestErrorsOfRange(t *testing.T) {
	f, m := of(t, dots(1), nil)
	for _, glyph := range []int{math.MinInt, -1, 2, 3, 65536, math.MaxInt} {
		hold(t, "16.1", "no glyph", f, m, glyph, nil, api.ErrArg)
	}
	for _, m := range []metric.Metric{m, {}, {Glyphs: -1}, {Glyphs: math.MinInt}, {Glyphs: math.MaxInt, Long: true}} {
		for _, glyph := range []int{math.MinInt, -1, 0, 1, 2, math.MaxInt} {
			hold(t, "16.1", "nil", nil, m, glyph, nil, api.ErrArg)
		}
	}
	hold(t, "16.1", "no glyph of the Metric", f, metric.Metric{}, 0, nil, api.ErrArg)
	hold(t, "16.1", "an entry that is not there", f, metric.Metric{Glyphs: math.MaxInt, Long: true}, 2, nil, api.ErrShort)
	hold(t, "16.1", "far beyond", f, metric.Metric{Glyphs: math.MaxInt, Long: true}, math.MaxInt-1, nil, api.ErrShort)
	b := dots(1)
	for what, c := range map[string]struct {
		tables map[string][]byte
		code   api.Errno
	}{
		"no tables":      {nil, api.ErrNone},
		"no loca":        {map[string][]byte{"glyf": b}, api.ErrNone},
		"no glyf":        {map[string][]byte{"loca": sample.Longs(0, 0)}, api.ErrNone},
		"no entries":     {map[string][]byte{"glyf": b, "loca": sample.Longs(0)}, api.ErrShort},
		"entries fall":   {map[string][]byte{"glyf": b, "loca": sample.Longs(4, 3)}, api.ErrForm},
		"entries beyond": {map[string][]byte{"glyf": b, "loca": sample.Longs(0, len(b)+1)}, api.ErrForm},
	} {
		hold(t, "16.1", what, sample.Font(c.tables), metric.Metric{Glyphs: 1, Long: true}, 0, nil, c.code)
	}
}

// 16.1: one contour, and several of them, written out.
func TestContours(t *testing.T) {
	is(t, "16.1", "a corner", outline{{on(100, 200), on(400, -100), off(0, 0)}},
		simple([]int{2}, 0, []byte{0x01, 0x01, 0x00}, sample.Words(100, 300, -400), sample.Words(200, -300, 100)))
	is(t, "16.1", "three contours", outline{{on(1, 7)}, {off(3, 15), on(6, 24)}, {off(10, 34), off(15, 45), on(21, 57)}},
		simple([]int{0, 2, 5}, 2, []byte{0x37, 0x36, 0x37, 0x36, 0x36, 0x37}, []byte{1, 2, 3, 4, 5, 6}, []byte{7, 8, 9, 10, 11, 12}))
	is(t, "16.1", "points that stay", outline{{on(0, 0)}, {on(0, 0), off(0, 0)}},
		simple([]int{0, 2}, 0, []byte{0x31, 0x31, 0x30}))
}

// 16.1: what a number of contours and the box about the glyph tell.
func TestBoxIsPassedOver(t *testing.T) {
	for seed := range 50 {
		b := slices.Concat(sample.Words(1), sample.Bytes(8, seed), sample.Words(0, 0), []byte{0x37, 5, 6})
		is(t, "16.1", "any box", outline{{on(5, 6)}}, b)
	}
}

// 16.1: each flag, but that of repeats, ahead of each other one: bits 1 and 4
// tell of x, 2 and 5 of y, 0 whether it is on the curve, 6 and 7 nothing.
func TestFlags(t *testing.T) {
	axis := func(flag, short, same, n int) ([]byte, int) {
		switch {
		case flag&short != 0 && flag&same != 0:
			return []byte{byte(n)}, n
		case flag&short != 0:
			return []byte{byte(n)}, -n
		case flag&same != 0:
			return nil, 0
		}
		return sample.Words(n*-100 + 3), n*-100 + 3
	}
	for first := range 256 {
		for second := range 256 {
			if (first|second)&0x08 != 0 {
				continue
			}
			x1, a := axis(first, 0x02, 0x10, 200)
			x2, b := axis(second, 0x02, 0x10, 129)
			y1, c := axis(first, 0x04, 0x20, 255)
			y2, d := axis(second, 0x04, 0x20, 1)
			want := outline{{{X: a, Y: c, On: first&1 == 1}, {X: a + b, Y: c + d, On: second&1 == 1}}}
			is(t, "16.1", strconv.Itoa(first)+" and "+strconv.Itoa(second), want,
				simple([]int{1}, 0, []byte{byte(first), byte(second)}, x1, x2, y1, y2))
		}
	}
}

// 16.1: short steps are 0 to 255 each way, long ones -32768 to 32767.
func TestSteps(t *testing.T) {
	for n := range 256 {
		b := []byte{byte(n), byte(255 - n)}
		is(t, "16.1", "short steps up", outline{{on(n, 255-n)}}, simple([]int{0}, 0, []byte{0x37}, b))
		is(t, "16.1", "short steps down", outline{{on(-n, n-255)}}, simple([]int{0}, 0, []byte{0x07}, b))
	}
	for _, n := range []int{-32768, -32767, -257, -256, -255, -129, -128, -1, 0, 1, 127, 128, 255, 256, 32766, 32767} {
		is(t, "16.1", "long steps", outline{{on(n, -n-1)}}, simple([]int{0}, 0, []byte{0x01}, sample.Words(n, -n-1)))
	}
}

// 16.1: places are whole numbers: they are not brought back into two bytes.
func TestFarPlaces(t *testing.T) {
	for _, n := range []int{32767, -32768} {
		var want []api.Point
		for k := range 400 {
			want = append(want, on((k+1)*n, (k+1)*(-1-n)))
		}
		b := simple([]int{399}, 0, []byte{0x09, 255, 0x09, 143}, slices.Repeat(sample.Words(n), 400), slices.Repeat(sample.Words(-1-n), 400))
		is(t, "16.1", "far places", outline{want}, b)
	}
}

// 16.1: a flag with bit 3 serves as many points more as the byte behind tells,
// contours apart, and no flag behind the last point is looked for.
func TestRepeats(t *testing.T) {
	for points := 1; points <= 300; points += 7 {
		for more := range 256 {
			flags := []byte{0x39, byte(more)}
			if more+1 > points {
				wrong(t, "16.1", "a repeat beyond the last point", api.ErrForm, simple([]int{points - 1}, 0, flags, make([]byte, 2000)))
				continue
			}
			want := slices.Repeat([]api.Point{on(0, 0)}, points)
			for k := more + 1; k < points; k++ {
				flags = append(flags, 0x30)
				want[k] = off(0, 0)
			}
			is(t, "16.1", "a repeat", outline{want}, simple([]int{points - 1}, 0, flags))
		}
	}
	is(t, "16.1", "a repeat over contours", outline{{on(1, -9)}, {on(3, -17)}, {on(6, -24), off(2, -18)}},
		simple([]int{0, 1, 3}, 0, []byte{0x1f, 2, 0x26}, []byte{1, 2, 3, 4}, []byte{9, 8, 7, 6}))
	is(t, "16.1", "a repeat of none", outline{{on(0, 0), off(0, 0)}}, simple([]int{1}, 0, []byte{0x39, 0, 0x30}))
	is(t, "16.1", "repeats behind one another", outline{{on(0, 0), on(0, 0), off(0, 0), off(0, 0), off(0, 0)}}, simple([]int{4}, 0, []byte{0x39, 1, 0x38, 2}))
	wrong(t, "16.1", "a second repeat beyond the last point", api.ErrForm, simple([]int{4}, 0, []byte{0x39, 1, 0x38, 3}))
	wrong(t, "16.1", "the last flag's repeat", api.ErrForm, simple([]int{1}, 0, []byte{0x31, 0x39, 1}))
	is(t, "16.1", "the last flag's repeat of none", outline{{on(0, 0), on(0, 0)}}, simple([]int{1}, 0, []byte{0x31, 0x39, 0}))
}

// 16.1: as many bytes as are told are passed over, whatever they are.
func TestPassedOver(t *testing.T) {
	for _, n := range []int{0, 1, 2, 255, 256, 257, 32767, 32768, 65535} {
		is(t, "16.1", "bytes that are passed over", outline{{on(3, 4)}}, simple([]int{0}, n, []byte{0x37, 3, 4}))
		b := simple([]int{0}, n)
		wrong(t, "16.1", "nothing behind what is passed over", api.ErrShort, b)
		wrong(t, "16.1", "less than is passed over", api.ErrShort, b[:len(b)-min(n, 1)])
	}
	for n := 1; n < 300; n++ {
		b := slices.Concat(sample.Words(1, 0, 0, 0, 0, 0, n), slices.Repeat([]byte{0x31}, n-1))
		wrong(t, "16.1", "less than is passed over", api.ErrShort, b)
	}
}

// 16.1: of 0 contours there are none, whatever is behind the ten bytes.
func TestNoContours(t *testing.T) {
	for seed := range 100 {
		is(t, "16.1", "0 contours", nil, slices.Concat(sample.Words(0), sample.Bytes(8+seed/2, seed)))
	}
	for n := 1; n < 10; n++ {
		wrong(t, "16.1", "0 contours, cut off", api.ErrShort, make([]byte, n))
	}
}

// 16.1: each last point is above the one ahead, the first one any.
func TestLastPoints(t *testing.T) {
	for a := range 5 {
		for b := range 5 {
			for c := range 5 {
				glyph := simple([]int{a, b, c}, 0, slices.Repeat([]byte{0x31}, c+1))
				if b <= a || c <= b {
					wrong(t, "16.1", "last points that do not rise", api.ErrForm, glyph)
					continue
				}
				stay := func(n int) []api.Point { return slices.Repeat([]api.Point{on(0, 0)}, n) }
				is(t, "16.1", "last points", outline{stay(a + 1), stay(b - a), stay(c - b)}, glyph)
			}
		}
	}
	wrong(t, "16.1", "the last two fall", api.ErrForm, simple([]int{0, 1, 2, 3, 2}, 0, make([]byte, 99)))
	wrong(t, "16.1", "from the end to 0", api.ErrForm, simple([]int{65535, 0}, 0, make([]byte, 99)))
}

// 16.1: MaxPoints points in one glyph, and one more.
func TestMostPoints(t *testing.T) {
	f, m := of(t, dots(api.MaxPoints), dots(api.MaxPoints+1), simple([]int{65535}, 0), simple([]int{0, 1, 400}, 0), simple([]int{65534, 65535}, 0))
	hold(t, "16.1", "the most points", f, m, 0, outline{slices.Repeat([]api.Point{on(0, 0)}, 400)}, api.OK)
	for k := 1; k < 5; k++ {
		hold(t, "16.1", "too many points", f, m, k, nil, api.ErrBudget)
	}
	for count := 399; count < 403; count++ {
		ends, want := []int{}, outline{}
		for k := range count {
			ends, want = append(ends, k), append(want, []api.Point{off(0, 0)})
		}
		b := simple(ends, 0, []byte{0x38, 255, 0x38, byte(count - 257)})
		if count > api.MaxPoints {
			wrong(t, "16.1", "too many contours", api.ErrBudget, b)
			continue
		}
		is(t, "16.1", "contours of a point", want, b)
	}
}

// 16.1: a glyph that is cut off at any byte ends too early, and what is behind
// its end means nothing.
func TestCutOff(t *testing.T) {
	for k, b := range [][]byte{
		simple([]int{0}, 0, []byte{0x31}),
		simple([]int{0}, 0, []byte{0x37, 1, 2}),
		simple([]int{1, 4, 5}, 7, []byte{0x01, 0x0f, 1, 0x39, 1, 0x00}, make([]byte, 6), make([]byte, 6)),
		simple([]int{3}, 20, []byte{0x08, 3}, make([]byte, 16)),
		simple([]int{3}, 0, []byte{0x2a, 3}, make([]byte, 4)),
		simple([]int{3}, 0, []byte{0x1c, 3}, make([]byte, 4)),
	} {
		f, m := of(t, b)
		want, e := expected(f, m, 0)
		if e != api.OK {
			t.Fatalf("glyph %d: error %d", k, e)
		}
		is(t, "16.1", "whole", want, b)
		is(t, "16.1", "with bytes behind", want, slices.Concat(b, sample.Bytes(9, k)))
		is(t, "16.1", "ahead of another glyph", want, b, dots(9))
		for n := 1; n < len(b); n++ {
			wrong(t, "16.1", "cut off at "+strconv.Itoa(n), api.ErrShort, b[:n])
			wrong(t, "16.1", "cut off ahead of another glyph", api.ErrShort, b[:n], dots(9))
		}
	}
}
