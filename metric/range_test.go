package metric_test

import (
	"math"
	"slices"
	"strconv"
	"testing"

	"versal/api"
	"versal/metric"
	"versal/sample"
)

// kinds are a Metric of short entries and one of long ones.
func kinds(glyphs int) []metric.Metric {
	return []metric.Metric{{Units: 1000, Glyphs: glyphs}, {Units: 1000, Glyphs: glyphs, Long: true}}
}

// entries answers a table loca of the kind that a Metric tells.
func entries(m metric.Metric, ends ...int) []byte {
	if m.Long {
		return sample.Longs(ends...)
	}
	return short(ends...)
}

// wide answers how many bytes an entry takes.
func wide(m metric.Metric) int {
	return len(entries(m, 0))
}

// 15.1: glyphs of some bytes and of none, at the beginning, in the middle and
// at the end of glyf.
func TestRange(t *testing.T) {
	all := []int{0, 0, 6, 6, 6, 20, 22, 30, 30, 30}
	for _, m := range kinds(len(all) - 1) {
		f := font(t, tables{"loca": entries(m, all...), "glyf": sample.Bytes(30, 1)})
		for k := range m.Glyphs {
			holdRange(t, "a glyph", f, m, k, place{from: all[k], to: all[k+1]})
		}
	}
}

// 15.1: a long entry tells its number, a short one twice its own; numbers that
// are odd may be told by long ones alone.
func TestWhatEntriesTell(t *testing.T) {
	b := []byte{0, 1, 0, 2, 0, 3, 0, 4}
	f := font(t, tables{"loca": b, "glyf": make([]byte, 0x30004)})
	for k := range 3 {
		holdRange(t, "short entries", f, metric.Metric{Glyphs: 3}, k, place{from: 2*k + 2, to: 2*k + 4})
	}
	holdRange(t, "long entries", f, metric.Metric{Glyphs: 3, Long: true}, 0, place{from: 0x10002, to: 0x30004})
	holdRange(t, "long entries", f, metric.Metric{Glyphs: 3, Long: true}, 1, place{e: api.ErrShort})
	f = font(t, tables{"loca": sample.Longs(1, 3, 3, 8), "glyf": make([]byte, 9)})
	for k, want := range []place{{from: 1, to: 3}, {from: 3, to: 3}, {from: 3, to: 8}} {
		holdRange(t, "odd ones", f, metric.Metric{Glyphs: 3, Long: true}, k, want)
	}
}

// 15.1: each byte of an entry counts for what it should.
func TestEachByteOfEntries(t *testing.T) {
	glyf := make([]byte, 1<<17)
	for k, want := range []int{512, 2} {
		b := []byte{0, 0, 0, 0}
		b[2+k] = 1
		holdRange(t, "a short entry", font(t, tables{"loca": b, "glyf": glyf}), metric.Metric{Glyphs: 1}, 0, place{to: want})
	}
	for k, want := range []int{1 << 16, 256, 1} {
		b := make([]byte, 8)
		b[5+k] = 1
		holdRange(t, "a long entry", font(t, tables{"loca": b, "glyf": glyf}), metric.Metric{Glyphs: 1, Long: true}, 0, place{to: want})
	}
	big := make([]byte, 1<<24)
	f := font(t, tables{"loca": []byte{0, 1, 0, 0, 1, 0, 0, 0}, "glyf": big})
	holdRange(t, "a far end", f, metric.Metric{Glyphs: 1, Long: true}, 0, place{from: 1 << 16, to: 1 << 24})
}

// 15.1: short entries lead as far as 131070.
func TestGreatestShort(t *testing.T) {
	l := tables{"loca": []byte{0, 0, 0xff, 0xff, 0xff, 0xff}}
	for n := 131069; n < 131073; n++ {
		f := font(t, l.with("glyf", make([]byte, n)))
		want := []place{{to: 131070}, {from: 131070, to: 131070}}
		if n < 131070 {
			want = []place{{e: api.ErrForm}, {e: api.ErrForm}}
		}
		for k, w := range want {
			holdRange(t, strconv.Itoa(n)+" bytes of glyf", f, metric.Metric{Glyphs: 2}, k, w)
		}
	}
}

// 15.1: a nil font, ahead of all else.
func TestRangeNil(t *testing.T) {
	for _, m := range append(kinds(3), metric.Metric{}, metric.Metric{Glyphs: -1}, metric.Metric{Glyphs: math.MaxInt, Long: true}) {
		for _, glyph := range []int{math.MinInt, -1, 0, 1, 3, math.MaxInt} {
			holdRange(t, "nil", nil, m, glyph, place{e: api.ErrArg})
		}
	}
}

// 15.1: a glyph that the Metric does not count, whatever the font has.
func TestNoSuchGlyph(t *testing.T) {
	counts := []int{math.MinInt, -2, -1, 0, 1, 2, 3, 9}
	for _, l := range []tables{nil, {"loca": nil, "glyf": nil}, {"loca": make([]byte, 400), "glyf": nil}} {
		f := font(t, l)
		for _, count := range counts {
			for _, m := range kinds(count) {
				for _, glyph := range []int{math.MinInt, math.MinInt + 1, -3, -2, -1} {
					holdRange(t, "below 0", f, m, glyph, place{e: api.ErrArg})
				}
				for _, above := range []int{0, 1, 2, 100, 1 << 31, 1 << 32, 1 << 61, 1 << 62} {
					if glyph := max(count, 0) + above; glyph >= 0 {
						holdRange(t, "above", f, m, glyph, place{e: api.ErrArg})
					}
				}
				holdRange(t, "the greatest", f, m, math.MaxInt, place{e: api.ErrArg})
			}
		}
	}
}

// 15.1: as many glyphs as the Metric counts are asked, not as many as there
// are entries, and the last one is asked.
func TestGlyphsOfMetric(t *testing.T) {
	for _, kind := range kinds(0) {
		f := font(t, tables{"loca": entries(kind, 0, 2, 4, 6, 8), "glyf": make([]byte, 8)})
		for count := range 8 {
			m := metric.Metric{Units: kind.Units, Glyphs: count, Long: kind.Long}
			for glyph := -1; glyph < 9; glyph++ {
				want := place{from: 2 * glyph, to: 2*glyph + 2}
				switch {
				case glyph < 0 || glyph >= count:
					want = place{e: api.ErrArg}
				case glyph > 3:
					want = place{e: api.ErrShort}
				}
				holdRange(t, "some of them", f, m, glyph, want)
			}
		}
	}
}

// R1: a Metric that Read never answered: glyphs that are far beyond any loca,
// up to the greatest number, and places that would come round to the first
// entries.
func TestFarGlyphs(t *testing.T) {
	far := []int{400, 1 << 16, 1<<31 - 1, 1 << 31, 1 << 32, 1<<61 - 1, 1 << 61, 1<<61 + 1, 1<<62 - 1, 1 << 62, 1<<62 + 1, 3 << 61, math.MaxInt - 1}
	for _, m := range kinds(math.MaxInt) {
		f := font(t, tables{"loca": make([]byte, 400), "glyf": nil})
		for _, glyph := range far {
			holdRange(t, "far", f, m, glyph, place{e: api.ErrShort})
			m.Glyphs = glyph + 1
			holdRange(t, "far, the last one", f, m, glyph, place{e: api.ErrShort})
			m.Glyphs = glyph
			holdRange(t, "far, one beyond", f, m, glyph, place{e: api.ErrArg})
			m.Glyphs = math.MaxInt
		}
		holdRange(t, "the greatest", f, m, math.MaxInt, place{e: api.ErrArg})
		holdRange(t, "near", f, m, 0, place{})
	}
}

// 15.1: what else a Metric tells is not asked.
func TestUnitsAreNotAsked(t *testing.T) {
	for _, m := range kinds(1) {
		f := font(t, tables{"loca": entries(m, 2, 4), "glyf": make([]byte, 4)})
		for _, units := range []int{math.MinInt, -1, 0, 1, 15, 16385, math.MaxInt} {
			m.Units = units
			holdRange(t, "other units", f, m, 0, place{from: 2, to: 4})
		}
	}
}

// 15.1: the Metric that is handed in tells of the entries, not the font's own
// tables head and maxp.
func TestMetricIsHandedIn(t *testing.T) {
	all := tables{"head": head(54, 1000, 1), "maxp": maxp(6, 1), "loca": short(0, 2, 4, 6), "glyf": make([]byte, 6)}
	for _, l := range []tables{all, all.without("head", "maxp"), all.with("head", nil), all.with("maxp", nil)} {
		holdRange(t, "another Metric", font(t, l), metric.Metric{Glyphs: 3}, 2, place{from: 4, to: 6})
	}
}

// 15.1: loca and glyf have to be there; empty ones are.
func TestNoTables(t *testing.T) {
	for _, m := range kinds(2) {
		l := tables{"loca": entries(m, 0, 2), "glyf": make([]byte, 2), "head": head(54, 1000, 0), "maxp": maxp(6, 2)}
		none := place{e: api.ErrNone}
		for glyph := range 2 {
			holdRange(t, "no loca", font(t, l.without("loca")), m, glyph, none)
			holdRange(t, "no glyf", font(t, l.without("glyf")), m, glyph, none)
			holdRange(t, "neither", font(t, l.without("loca", "glyf")), m, glyph, none)
			holdRange(t, "no tables", font(t, nil), m, glyph, none)
			holdRange(t, "an empty loca", font(t, l.with("loca", nil)), m, glyph, place{e: api.ErrShort})
		}
		holdRange(t, "others", font(t, tables{"LOCA": l["loca"], "GLYF": l["glyf"]}), m, 0, none)
		holdRange(t, "both", font(t, l), m, 0, place{to: 2})
	}
}

// 15.1: loca cut off at each byte: a glyph is there as soon as its entry and
// the one behind it are whole.
func TestLocaLengths(t *testing.T) {
	for _, m := range kinds(6) {
		all := entries(m, 0, 2, 4, 6, 8, 10, 12)
		for n := range len(all) + 1 {
			f := font(t, tables{"loca": all[:n], "glyf": make([]byte, 12)})
			for k := range m.Glyphs {
				want := place{from: 2 * k, to: 2*k + 2}
				if n < (k+2)*wide(m) {
					want = place{e: api.ErrShort}
				}
				holdRange(t, strconv.Itoa(n)+" bytes of loca", f, m, k, want)
			}
		}
	}
}

// 15.1: what lies behind loca in the file is no entry.
func TestLocaEnds(t *testing.T) {
	for _, m := range kinds(4) {
		l := tables{"loca": entries(m, 0, 2), "glyf": make([]byte, 2), "locb": make([]byte, 40), "zzzz": make([]byte, 40)}
		holdRange(t, "the last", font(t, l), m, 0, place{to: 2})
		holdRange(t, "one beyond", font(t, l), m, 1, place{e: api.ErrShort})
	}
}

// 15.1: entries that fall, that are equal, and that lead to the end of glyf,
// one ahead of it and one beyond: all pairs, about an empty and a small glyf.
func TestPairs(t *testing.T) {
	for _, size := range []int{0, 1, 2, 7, 8} {
		for _, m := range kinds(1) {
			step := 4 / wide(m)
			for from := 0; from < 14; from += step {
				for to := 0; to < 14; to += step {
					want := place{from: from, to: to}
					if from > to || to > size {
						want = place{e: api.ErrForm}
					}
					l := tables{"loca": entries(m, from, to), "glyf": sample.Bytes(size, 1)}
					holdRange(t, strconv.Itoa(size)+" bytes of glyf", font(t, l), m, 0, want)
				}
			}
		}
	}
}

// 15.1: long entries near 2^31 and 2^32 lead beyond, and are not below 0.
func TestFarEntries(t *testing.T) {
	m := metric.Metric{Glyphs: 1, Long: true}
	far := []int{9, 1 << 16, 1<<31 - 1, 1 << 31, 1<<31 + 1, 1<<32 - 2, 1<<32 - 1}
	for _, a := range far {
		for _, b := range append([]int{0, 8}, far...) {
			for _, ends := range [][]int{{a, b}, {b, a}} {
				f := font(t, tables{"loca": sample.Longs(ends...), "glyf": make([]byte, 8)})
				holdRange(t, "far entries", f, m, 0, place{e: api.ErrForm})
			}
		}
	}
}

// 15.1: what other glyphs' entries tell is not asked.
func TestOtherEntriesAreNotAsked(t *testing.T) {
	for _, m := range kinds(5) {
		f := font(t, tables{"loca": entries(m, 60000, 50000, 2, 8, 40000, 0), "glyf": make([]byte, 8)})
		for k, w := range []place{{e: api.ErrForm}, {e: api.ErrForm}, {from: 2, to: 8}, {e: api.ErrForm}, {e: api.ErrForm}} {
			holdRange(t, "others", f, m, k, w)
		}
	}
}

// R3: of several errors the first that the chapter names.
func TestRangeOrder(t *testing.T) {
	for _, m := range kinds(2) {
		bad := entries(m, 8, 2)
		for _, c := range []struct {
			what  string
			l     tables
			glyph int
			e     api.Errno
		}{
			{"no glyph, no tables", nil, 2, api.ErrArg},
			{"no glyph, short", tables{"loca": bad[:1], "glyf": nil}, -1, api.ErrArg},
			{"no glyph, short, at the end", tables{"loca": bad, "glyf": nil}, 2, api.ErrArg},
			{"no glyph, no glyf", tables{"loca": bad}, math.MaxInt, api.ErrArg},
			{"no glyf, short", tables{"loca": bad[:1]}, 0, api.ErrNone},
			{"no glyf, an empty loca", tables{"loca": nil}, 1, api.ErrNone},
			{"no glyf, falling", tables{"loca": bad}, 0, api.ErrNone},
			{"no loca, an empty glyf", tables{"glyf": nil}, 1, api.ErrNone},
			{"short, the first beyond", tables{"loca": bad, "glyf": nil}, 1, api.ErrShort},
			{"short, the first beyond, amid the next", tables{"loca": slices.Concat(bad, bad[:1]), "glyf": nil}, 1, api.ErrShort},
			{"falling and beyond", tables{"loca": bad, "glyf": nil}, 0, api.ErrForm},
		} {
			holdRange(t, c.what, font(t, c.l), m, c.glyph, place{e: c.e})
		}
	}
}
