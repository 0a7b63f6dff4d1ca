package glyf_test

import (
	"slices"
	"strconv"
	"testing"

	"versal/api"
)

// chain answers glyphs of which each is a component of the one ahead, and the
// last one is this.
func chain(count int, last []byte) [][]byte {
	var glyphs [][]byte
	for k := 1; k < count; k++ {
		glyphs = append(glyphs, plain(k))
	}
	return append(glyphs, last)
}

// many answers a list of a number, so many times.
func many(n, times int) []int { return slices.Repeat([]int{n}, times) }

// 16.2: a component that is its own glyph, at once or by others.
func TestCycles(t *testing.T) {
	wrong(t, "16.2", "itself", api.ErrCycle, plain(0))
	wrong(t, "16.2", "itself, behind others", api.ErrCycle, plain(1, 1, 0), hook)
	wrong(t, "16.2", "itself, ahead of others", api.ErrCycle, plain(0, 1), hook)
	for length := 1; length < 10; length++ {
		for back := range length {
			code := api.ErrCycle
			if length > 6 {
				code = api.ErrBudget
			}
			wrong(t, "16.2", "a ring from "+strconv.Itoa(length)+" back to "+strconv.Itoa(back), code, chain(length, plain(back))...)
		}
	}
	f, m := of(t, plain(2), plain(0), plain(1), plain(0), plain(4))
	for k := range m.Glyphs {
		hold(t, "16.2", "into a ring", f, m, k, nil, api.ErrCycle)
	}
}

// 16.2: a glyph may come as often as there is room for, where it is not under
// way already.
func TestNoCycles(t *testing.T) {
	is(t, "16.2", "by two ways", slices.Concat(hooked, hooked), plain(1, 2), plain(3), plain(3), hook)
	is(t, "16.2", "by a long way and a short one", slices.Concat(hooked, hooked, hooked), plain(1, 2, 3), plain(2), plain(3), hook)
	is(t, "16.2", "within and beside", slices.Concat(hooked, hooked, hooked), plain(1, 2, 1), plain(2), hook)
}

// 16.2: six glyphs may be under way, and no seventh, whatever it is.
func TestUnderWay(t *testing.T) {
	for _, last := range [][]byte{hook, nil, make([]byte, 10)} {
		var want outline
		if len(last) > 10 {
			want = hooked
		}
		f, m := of(t, chain(9, last)...)
		for k := range 9 {
			if 9-k > 6 {
				hold(t, "16.2", "seven under way", f, m, k, nil, api.ErrBudget)
			} else {
				hold(t, "16.2", "six under way", f, m, k, want, api.OK)
			}
		}
	}
	wrong(t, "16.2", "seven, behind others", api.ErrBudget, plain(7, 1), plain(2), plain(3), plain(4), plain(5), plain(6), hook, hook)
	is(t, "16.2", "six, time and again", slices.Concat(hooked, hooked, hooked, hooked), plain(1, 1), plain(2), plain(3, 3), plain(4), plain(5), hook)
}

// 16.2: 1000 glyphs may be begun, the one that was asked for among them, and
// no more.
func TestBegun(t *testing.T) {
	for _, empty := range [][]byte{nil, make([]byte, 10)} {
		is(t, "16.2", "1000 glyphs", nil, plain(many(1, 999)...), empty)
		wrong(t, "16.2", "1001 glyphs", api.ErrBudget, plain(many(1, 1000)...), empty)
		is(t, "16.2", "1000 glyphs, of which the last one is the hook", hooked, plain(append(many(1, 998), 2)...), empty, hook)
		wrong(t, "16.2", "1001 glyphs, of which the last one is the hook", api.ErrBudget, plain(append(many(1, 999), 2)...), empty, hook)
		row, less := plain(many(1, 99)...), plain(many(1, 98)...)
		is(t, "16.2", "1000 within", nil, plain(append(many(2, 9), 3)...), empty, row, less)
		wrong(t, "16.2", "1001 within", api.ErrBudget, plain(many(2, 10)...), empty, row, less)
		wrong(t, "16.2", "1001 beside", api.ErrBudget, plain(append(many(2, 9), 3, 1)...), empty, row, less)
	}
	wide := [][]byte{plain(many(1, 10)...), plain(many(2, 10)...), plain(many(3, 10)...), plain(many(4, 10)...), plain(many(5, 10)...), nil}
	wrong(t, "16.2", "more and more", api.ErrBudget, wide...)
	wrong(t, "16.2", "as many as there is room for", api.ErrBudget, plain(many(1, 60000)...), nil)
}

// 16.1: the points of all components are counted together, each time that they
// come, and none that have none.
func TestPointsOfAll(t *testing.T) {
	stay := func(counts ...int) outline {
		var l outline
		for _, n := range counts {
			l = append(l, slices.Repeat([]api.Point{on(0, 0)}, n))
		}
		return l
	}
	is(t, "16.1", "400 of two", stay(200, 200), plain(1, 1), dots(200))
	is(t, "16.1", "400 of three", stay(1, 398, 1), plain(1, 2, 1), dots(1), dots(398))
	is(t, "16.1", "400 among none", stay(200, 200), plain(2, 1, 3, 1, 2, 3), dots(200), nil, make([]byte, 10))
	is(t, "16.1", "400 within", stay(100, 100, 100, 100), plain(1, 1), plain(2, 2), dots(100))
	wrong(t, "16.1", "401 of two", api.ErrBudget, plain(1, 2), dots(200), dots(201))
	wrong(t, "16.1", "401 of two", api.ErrBudget, plain(2, 1), dots(1), dots(400))
	wrong(t, "16.1", "401 of three", api.ErrBudget, plain(1, 1, 2), dots(200), dots(1))
	wrong(t, "16.1", "401 within", api.ErrBudget, plain(1, 1, 3), plain(2, 2), dots(100), dots(1))
	wrong(t, "16.1", "401 within", api.ErrBudget, plain(2, 1), plain(3, 3), dots(201), dots(100))
	for n := 1; n < 30; n++ {
		times := 400 / n
		is(t, "16.1", "as many as there is room for", stay(many(n, times)...), plain(many(1, times)...), dots(n))
		wrong(t, "16.1", "one time more", api.ErrBudget, plain(many(1, times+1)...), dots(n))
	}
}
