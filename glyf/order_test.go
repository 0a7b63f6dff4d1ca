package glyf_test

import (
	"math"
	"slices"
	"testing"

	"versal/api"
	"versal/metric"
	"versal/sample"
)

// R3: of a simple glyph's errors the first that is come to.
func TestOrderOfSimple(t *testing.T) {
	for what, c := range map[string]struct {
		glyph []byte
		code  api.Errno
	}{
		"the ends are not all there, and fall":         {slices.Concat(sample.Words(3, 0, 0, 0, 0), sample.Words(5, 3), []byte{0}), api.ErrShort},
		"the ends are not all there, and too many":     {slices.Concat(sample.Words(2, 0, 0, 0, 0), sample.Words(65535)), api.ErrShort},
		"the ends fall, and there are too many":        {simple([]int{900, 3}, 0), api.ErrForm},
		"the ends fall far behind too many":            {simple([]int{1, 900, 950, 950}, 0), api.ErrForm},
		"the ends fall, and nothing is behind":         {slices.Concat(sample.Words(2, 0, 0, 0, 0), sample.Words(3, 3)), api.ErrForm},
		"too many, and nothing is behind":              {slices.Concat(sample.Words(1, 0, 0, 0, 0), sample.Words(400)), api.ErrBudget},
		"too many, and what is passed over is short":   {slices.Concat(sample.Words(1, 0, 0, 0, 0), sample.Words(400, 900)), api.ErrBudget},
		"too many, and a repeat beyond":                {simple([]int{400}, 0, []byte{0x39, 255, 0x39, 255}), api.ErrBudget},
		"what is passed over holds what would be told": {slices.Concat(sample.Words(1, 0, 0, 0, 0, 0, 3), []byte{0x39, 9}), api.ErrShort},
		"a repeat that is not there":                   {simple([]int{0}, 0, []byte{0x39}), api.ErrShort},
		"flags end ahead of a repeat":                  {simple([]int{2}, 0, []byte{0x31}), api.ErrShort},
		"a repeat beyond, and no steps":                {simple([]int{1}, 0, []byte{0x09, 2}), api.ErrForm},
		"a repeat beyond, at the end":                  {simple([]int{1}, 0, []byte{0x01, 0x09, 1}), api.ErrForm},
	} {
		wrong(t, "16.1", what, c.code, c.glyph)
	}
}

// R3: of a composite's errors the first that is come to: a component is read,
// then it is begun and its own errors are told, then the one behind is read.
func TestOrderOfComponents(t *testing.T) {
	short, malformed, great := make([]byte, 9), simple([]int{1, 1}, 0), dots(401)
	cut := func(glyph int) []byte { return part(0x0a, glyph, []byte{0, 0, 0}) }
	for what, c := range map[string]struct {
		code   api.Errno
		glyphs [][]byte
	}{
		"cut off, and itself":                    {api.ErrShort, [][]byte{made(cut(0))}},
		"cut off, and no glyph":                  {api.ErrShort, [][]byte{made(cut(9))}},
		"cut off, and malformed":                 {api.ErrShort, [][]byte{made(cut(1)), malformed}},
		"cut off, and too many points":           {api.ErrShort, [][]byte{made(cut(1)), great}},
		"cut off amid its arguments, and itself": {api.ErrShort, [][]byte{made(part(0x02, 0, []byte{0}))}},
		"flag 1, and itself":                     {api.ErrForm, [][]byte{made(part(0x00, 0, []byte{0, 0}))}},
		"flag 1, and too many points":            {api.ErrForm, [][]byte{made(part(0x00, 1, []byte{0, 0})), great}},
		"itself, and the next one is cut off":    {api.ErrCycle, [][]byte{made(part(0x22, 0, []byte{0, 0}), []byte{0})}},
		"itself, and flag 1 of the next one":     {api.ErrCycle, [][]byte{made(part(0x22, 0, []byte{0, 0}), part(0, 1))}},
		"malformed, and no next one":             {api.ErrForm, [][]byte{made(part(0x22, 1, []byte{0, 0})), malformed}},
		"too many points, and no next one":       {api.ErrBudget, [][]byte{made(part(0x22, 1, []byte{0, 0})), great}},
		"no glyph, and no next one":              {api.ErrForm, [][]byte{made(part(0x22, 9, []byte{0, 0}))}},
		"no next one, of a fine one":             {api.ErrShort, [][]byte{made(part(0x22, 1, []byte{0, 0})), hook}},
		"a fine one, then a cycle":               {api.ErrCycle, [][]byte{plain(1, 0, 2), hook, malformed}},
		"malformed, then a cycle":                {api.ErrForm, [][]byte{plain(2, 0), hook, malformed}},
		"short, then malformed":                  {api.ErrShort, [][]byte{plain(1, 2), short, malformed}},
		"malformed, then short":                  {api.ErrForm, [][]byte{plain(2, 1), short, malformed}},
		"short within, then a cycle":             {api.ErrShort, [][]byte{plain(1, 0), plain(2, 0), short}},
		"a cycle within, then short":             {api.ErrCycle, [][]byte{plain(1, 2), plain(0, 2), short}},
		"too many points, then short":            {api.ErrBudget, [][]byte{plain(1, 1, 2), dots(300), short}},
		"too many points, of a short glyph":      {api.ErrBudget, [][]byte{plain(1, 2), dots(300), simple([]int{100}, 0)}},
		"ends that fall, of too many points":     {api.ErrForm, [][]byte{plain(1, 2), dots(300), simple([]int{100, 100}, 0)}},
		"as many as may be, of a short glyph":    {api.ErrShort, [][]byte{plain(1, 2), dots(300), simple([]int{99}, 0)}},
	} {
		wrong(t, "16.2", what, c.code, c.glyphs...)
	}
}

// R3: ahead of a glyph's Range a cycle is told, then what is beyond the
// budget.
func TestOrderAheadOfRange(t *testing.T) {
	wrong(t, "16.2", "a cycle of seven", api.ErrCycle, chain(6, plain(0))...)
	wrong(t, "16.2", "six, of which the last one is its own", api.ErrCycle, chain(6, plain(5))...)
	wrong(t, "16.2", "seven, of which the last one is none", api.ErrBudget, chain(6, plain(99))...)
	wrong(t, "16.2", "six, of which the last one is none", api.ErrForm, chain(5, plain(99))...)
	wrong(t, "16.2", "seven, of which the last one is malformed", api.ErrBudget, chain(7, simple([]int{1, 1}, 0))...)
	wrong(t, "16.2", "1001, of which the last one is itself", api.ErrCycle, plain(append(many(1, 999), 0)...), nil)
	wrong(t, "16.2", "1001, of which the last one is none", api.ErrBudget, plain(append(many(1, 999), 9)...), nil)
	wrong(t, "16.2", "1000, of which the last one is none", api.ErrForm, plain(append(many(1, 998), 9)...), nil)
	wrong(t, "16.2", "1001, of which the last one is malformed", api.ErrBudget, plain(append(many(1, 999), 2)...), nil, simple([]int{1, 1}, 0))
	wrong(t, "16.2", "1000, of which the last one is malformed", api.ErrForm, plain(append(many(1, 998), 2)...), nil, simple([]int{1, 1}, 0))
	b := chain(6, nil)
	f := sample.Font(map[string][]byte{"glyf": slices.Concat(b...), "loca": sample.Longs(0, 16, 32, 48, 64, 80)})
	hold(t, "16.2", "six, of which the last one has no entry", f, metric.Metric{Glyphs: 6, Long: true}, 0, nil, api.ErrShort)
	hold(t, "16.2", "six, of which the last one is none", f, metric.Metric{Glyphs: 5, Long: true}, 0, nil, api.ErrForm)
}

// R3: a nil font and a glyph that is none ahead of all tables.
func TestOrderOfRange(t *testing.T) {
	f := sample.Font(nil)
	for _, glyph := range []int{-1, 3, math.MaxInt, math.MinInt} {
		hold(t, "16.1", "no tables, and no glyph", f, metric.Metric{Glyphs: 3}, glyph, nil, api.ErrArg)
	}
	hold(t, "16.1", "no tables", f, metric.Metric{Glyphs: 3}, 2, nil, api.ErrNone)
	f = sample.Font(map[string][]byte{"loca": nil})
	hold(t, "16.1", "no glyf, and no entries", f, metric.Metric{Glyphs: 3}, 2, nil, api.ErrNone)
	f = sample.Font(map[string][]byte{"loca": sample.Longs(9), "glyf": nil})
	hold(t, "16.1", "no entry behind, and one that leads beyond", f, metric.Metric{Glyphs: 1, Long: true}, 0, nil, api.ErrShort)
}
