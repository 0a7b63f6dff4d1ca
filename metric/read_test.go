package metric_test

import (
	"slices"
	"strconv"
	"testing"

	"versal/api"
	"versal/metric"
	"versal/sample"
)

// fine answers the two tables that Read asks, as they should be.
func fine() tables {
	return tables{"head": head(54, 1000, 0), "maxp": maxp(6, 7)}
}

// 15, Examples: without tables there is nothing.
func TestExample(t *testing.T) {
	wrongRead(t, "no tables", nil, api.ErrNone)
}

// 15.1: Read of nil.
func TestReadNil(t *testing.T) {
	if got, e := metric.Read(nil); e != api.ErrArg || got != (metric.Metric{}) {
		t.Errorf("15.1: Read of nil: %+v, error %d", got, e)
	}
}

// 15.1: what is read: fonts with both tables, short and long, of one and of
// many glyphs, whatever else they have.
func TestRead(t *testing.T) {
	for _, units := range []int{16, 17, 1000, 2048, 4096, 16383, 16384} {
		for _, glyphs := range []int{1, 2, 255, 256, 257, 32767, 32768, 65534, 65535} {
			for format := range 2 {
				want := metric.Metric{Units: units, Glyphs: glyphs, Long: format == 1}
				l := tables{"head": head(54, units, format), "maxp": maxp(6, glyphs)}
				holdRead(t, "both tables", l, want, api.OK)
				holdRead(t, "longer ones", tables{"head": head(60, units, format), "maxp": maxp(32, glyphs)}, want, api.OK)
				holdRead(t, "beside others", l.with("loca", sample.Bytes(9, 1)).with("glyf", nil).with("hea ", sample.Bytes(60, 2)), want, api.OK)
			}
		}
	}
}

// 15.1: head has to be there.
func TestNoHead(t *testing.T) {
	for _, l := range []tables{nil, {"maxp": maxp(6, 1)}, {"maxp": nil}, {"HEAD": head(54, 1000, 0), "maxp": maxp(6, 1)}, {"hhea": head(54, 1000, 0), "loca": nil, "glyf": nil}} {
		wrongRead(t, "no head", l, api.ErrNone)
	}
}

// 15.1: fewer than 54 bytes of head are short, whatever they tell; more are not.
func TestHeadLengths(t *testing.T) {
	for _, units := range []int{0, 1000, 65535} {
		for _, format := range []int{0, 1, 2} {
			for n := range 54 {
				wrongRead(t, strconv.Itoa(n)+" bytes of head", fine().with("head", head(n, units, format)), api.ErrShort)
			}
		}
	}
	for n := 54; n < 200; n++ {
		holdRead(t, strconv.Itoa(n)+" bytes of head", fine().with("head", head(n, 1000, 0)), metric.Metric{Units: 1000, Glyphs: 7}, api.OK)
	}
}

// 15.1: of each unitsPerEm: those from 16 to 16384 are taken.
func TestEachUnits(t *testing.T) {
	for units := range 1 << 16 {
		l := fine().with("head", head(54, units, units%2))
		if units >= 16 && units <= 16384 {
			holdRead(t, strconv.Itoa(units)+" units", l, metric.Metric{Units: units, Glyphs: 7, Long: units%2 == 1}, api.OK)
			continue
		}
		wrongRead(t, strconv.Itoa(units)+" units", l, api.ErrForm)
	}
}

// 15.1: of each indexToLocFormat: 0 is short, 1 is long, no other is taken.
func TestEachFormat(t *testing.T) {
	for format := range 1 << 16 {
		l := fine().with("head", head(54, 2048, format))
		if format < 2 {
			holdRead(t, "format "+strconv.Itoa(format), l, metric.Metric{Units: 2048, Glyphs: 7, Long: format == 1}, api.OK)
			continue
		}
		wrongRead(t, "format "+strconv.Itoa(format), l, api.ErrForm)
	}
}

// 15.1: maxp has to be there.
func TestNoMaxp(t *testing.T) {
	wrongRead(t, "no maxp", fine().without("maxp"), api.ErrNone)
	wrongRead(t, "MAXP", fine().without("maxp").with("MAXP", maxp(6, 7)), api.ErrNone)
}

// 15.1: fewer than six bytes of maxp are short, whatever they tell; more are not.
func TestMaxpLengths(t *testing.T) {
	for _, glyphs := range []int{0, 1, 7, 65535} {
		for n := range 6 {
			wrongRead(t, strconv.Itoa(n)+" bytes of maxp", fine().with("maxp", maxp(n, glyphs)), api.ErrShort)
		}
	}
	for n := 6; n < 60; n++ {
		holdRead(t, strconv.Itoa(n)+" bytes of maxp", fine().with("maxp", maxp(n, 7)), metric.Metric{Units: 1000, Glyphs: 7}, api.OK)
		wrongRead(t, strconv.Itoa(n)+" bytes of maxp of none", fine().with("maxp", maxp(n, 0)), api.ErrForm)
	}
}

// 15.1: of each numGlyphs: none are too few.
func TestEachGlyphs(t *testing.T) {
	for glyphs := 1; glyphs < 1<<16; glyphs++ {
		l := fine().with("maxp", maxp(6, glyphs))
		holdRead(t, strconv.Itoa(glyphs)+" glyphs", l, metric.Metric{Units: 1000, Glyphs: glyphs}, api.OK)
	}
	wrongRead(t, "no glyphs", fine().with("maxp", maxp(6, 0)), api.ErrForm)
}

// 15.1: bytes beside those that are told of are not asked.
func TestOtherBytesAreNotAsked(t *testing.T) {
	want := metric.Metric{Units: 1000, Glyphs: 7}
	asked := map[string][]int{"head": {18, 19, 50, 51}, "maxp": {4, 5}}
	for tag, places := range asked {
		for at := range fine()[tag] {
			for x := range 256 {
				b := slices.Clone(fine()[tag])
				b[at] = byte(x)
				if !slices.Contains(places, at) {
					holdRead(t, tag+" turned at "+strconv.Itoa(at), fine().with(tag, b), want, api.OK)
				}
			}
		}
	}
}

// R3: of several errors the first that the chapter names: each state of head
// beside each of maxp.
func TestReadOrder(t *testing.T) {
	heads := []struct {
		what string
		b    []byte
		none bool
		e    api.Errno
	}{
		{what: "no head", none: true, e: api.ErrNone},
		{what: "an empty head", b: nil, e: api.ErrShort},
		{what: "a short head of few units", b: head(53, 15, 0), e: api.ErrShort},
		{what: "few units", b: head(54, 15, 0), e: api.ErrForm},
		{what: "no units, no format", b: head(54, 0, 2), e: api.ErrForm},
		{what: "no format", b: head(54, 16384, 256), e: api.ErrForm},
		{what: "a fine head", b: head(54, 16, 1), e: api.OK},
	}
	maxps := []struct {
		what string
		b    []byte
		none bool
		e    api.Errno
	}{
		{what: "no maxp", none: true, e: api.ErrNone},
		{what: "an empty maxp", b: nil, e: api.ErrShort},
		{what: "a short maxp", b: maxp(5, 1), e: api.ErrShort},
		{what: "no glyphs", b: maxp(6, 0), e: api.ErrForm},
		{what: "a fine maxp", b: maxp(6, 9), e: api.OK},
	}
	for _, h := range heads {
		for _, m := range maxps {
			l := tables{"head": h.b, "maxp": m.b}
			if h.none {
				l = l.without("head")
			}
			if m.none {
				l = l.without("maxp")
			}
			code, want := h.e, metric.Metric{}
			if code == api.OK {
				code = m.e
			}
			if code == api.OK {
				want = metric.Metric{Units: 16, Glyphs: 9, Long: true}
			}
			holdRead(t, h.what+", "+m.what, l, want, code)
		}
	}
}
