package metric_test

import (
	"math"
	"slices"
	"testing"

	"versal/api"
	"versal/metric"
	"versal/sample"
)

// some answers a font's tables, most of them as they should be, and a Metric
// that is most often theirs.
func some(seed int) (tables, metric.Metric) {
	pick := sample.Source(seed)
	m := metric.Metric{Units: 16 + pick(16369), Glyphs: 1 + pick(9), Long: pick(2) == 1}
	format := 0
	if m.Long {
		format = 1
	}
	ends, at := []int{0}, 0
	for range m.Glyphs {
		at += 2 * pick(9)
		ends = append(ends, at)
	}
	l := tables{
		"head": head(54+pick(9), m.Units, format), "maxp": maxp(6+pick(9), m.Glyphs),
		"loca": entries(m, ends...), "glyf": sample.Bytes(at+2*pick(2), seed),
	}
	return l, m
}

// turn answers the tables with one thing changed.
func turn(l tables, pick func(n int) int) tables {
	tag := []string{"head", "maxp", "loca", "glyf"}[pick(4)]
	b := slices.Clone(l[tag])
	switch pick(6) {
	case 0:
		return l.without(tag)
	case 1:
		return l.with(tag, b[:pick(len(b)+1)])
	case 2:
		return l.with(tag, append(b, sample.Bytes(pick(9), pick(99))...))
	}
	if len(b) > 0 {
		at := pick(len(b))
		if near := []int{18, 50, 4, pick(len(b))}[pick(4)]; near+1 < len(b) {
			at = near + pick(2)
		}
		b[at] ^= 1 << pick(8)
	}
	return l.with(tag, b)
}

// 15.1: fonts of all kinds, some with things turned, held against another
// reading of the chapter.
func TestTurned(t *testing.T) {
	reads, ranges := make(map[api.Errno]int), make(map[api.Errno]int)
	for seed := range 20000 {
		l, m := some(seed)
		pick := sample.Source(seed + 1<<20)
		for range pick(3) {
			l = turn(l, pick)
		}
		want, e := expectedRead(l)
		holdRead(t, "turned", l, want, e)
		reads[e]++
		if e == api.OK && pick(2) == 0 {
			m = want
		}
		f := font(t, l)
		for glyph := -1; glyph < 11; glyph++ {
			w := expectedRange(l, m, glyph)
			holdRange(t, "turned", f, m, glyph, w)
			ranges[w.e]++
		}
	}
	for _, e := range []api.Errno{api.OK, api.ErrForm, api.ErrShort, api.ErrNone} {
		if reads[e] < 500 || ranges[e] < 500 {
			t.Errorf("error %d: %d and %d times", e, reads[e], ranges[e])
		}
	}
}

// R1: tables of any bytes, any Metric and any glyph.
func TestAnyBytes(t *testing.T) {
	numbers := []int{math.MinInt, -1, 0, 1, 2, 5, 9, 30, 1 << 31, 1 << 61, 1 << 62, math.MaxInt}
	for seed := range 3000 {
		pick := sample.Source(seed)
		l := make(tables)
		for _, tag := range []string{"head", "maxp", "loca", "glyf"} {
			if pick(6) > 0 {
				l[tag] = sample.Bytes(pick(70), pick(1<<30))
			}
		}
		want, e := expectedRead(l)
		holdRead(t, "any bytes", l, want, e)
		f := font(t, l)
		for _, count := range numbers {
			for _, glyph := range numbers {
				m := metric.Metric{Units: count, Glyphs: count, Long: pick(2) == 1}
				holdRange(t, "any bytes", f, m, glyph, expectedRange(l, m, glyph))
			}
		}
	}
}
