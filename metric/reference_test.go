package metric_test

import (
	"bytes"
	"encoding/binary"
	"maps"
	"math/big"
	"testing"

	"versal/api"
	"versal/metric"
	"versal/sample"
	"versal/sfnt"
)

// tables are a font's, by their tags.
type tables map[string][]byte

// with answers the same tables, but this one.
func (l tables) with(tag string, b []byte) tables {
	l = maps.Clone(l)
	l[tag] = b
	return l
}

// without answers the same tables, but those of these tags.
func (l tables) without(tags ...string) tables {
	l = maps.Clone(l)
	for _, tag := range tags {
		delete(l, tag)
	}
	return l
}

// font answers a font of these tables.
func font(t *testing.T, l tables) *sfnt.Font {
	t.Helper()
	f := sample.Font(l)
	if f == nil {
		t.Fatal("no font of these tables")
	}
	return f
}

// head answers so many bytes of a table head that tells these two numbers; the
// others mean nothing.
func head(size, units, format int) []byte {
	b := sample.Bytes(max(size, 54), size)
	binary.BigEndian.PutUint16(b[18:], uint16(units))
	binary.BigEndian.PutUint16(b[50:], uint16(format))
	return b[:size]
}

// maxp answers so many bytes of a table maxp that tells this number.
func maxp(size, glyphs int) []byte {
	b := sample.Bytes(max(size, 6), size)
	binary.BigEndian.PutUint16(b[4:], uint16(glyphs))
	return b[:size]
}

// short answers a table loca of short entries: half of each number.
func short(ends ...int) []byte {
	var b []byte
	for _, n := range ends {
		b = binary.BigEndian.AppendUint16(b, uint16(n/2))
	}
	return b
}

// place is what Range answers.
type place struct {
	from, to int
	e        api.Errno
}

// expectedRead is 15.1 of Read said another way: the library reads all fields
// that lie ahead of those that are asked.
func expectedRead(l tables) (metric.Metric, api.Errno) {
	var first struct {
		Versions, Revision, Sum, Mark uint32
		Flags, UnitsPerEm             uint16
		Times                         [2]int64
		Box                           [4]int16
		Style, Least                  uint16
		Hint, Loca, Glyf              int16
	}
	var second struct {
		Version uint32
		Glyphs  uint16
	}
	if e := fields(l, "head", &first); e != api.OK {
		return metric.Metric{}, e
	}
	fine := first.UnitsPerEm/16 > 0 && (int(first.UnitsPerEm)-1)>>14 == 0
	if !fine || first.Loca>>1 != 0 {
		return metric.Metric{}, api.ErrForm
	}
	if e := fields(l, "maxp", &second); e != api.OK {
		return metric.Metric{}, e
	}
	if second.Glyphs == 0 {
		return metric.Metric{}, api.ErrForm
	}
	return metric.Metric{Units: int(first.UnitsPerEm), Glyphs: int(second.Glyphs), Long: first.Loca&1 == 1}, api.OK
}

// fields fills a struct with what a table begins with.
func fields(l tables, tag string, into any) api.Errno {
	b, ok := l[tag]
	if !ok {
		return api.ErrNone
	}
	if binary.Read(bytes.NewReader(b), binary.BigEndian, into) != nil {
		return api.ErrShort
	}
	return api.OK
}

// expectedRange is 15.1 of Range said another way: the library reads all
// entries, and numbers of any length tell whether there are as many.
func expectedRange(l tables, m metric.Metric, glyph int) place {
	if big.NewInt(int64(glyph)).Sign() < 0 || big.NewInt(int64(glyph)).Cmp(big.NewInt(int64(m.Glyphs))) >= 0 {
		return place{e: api.ErrArg}
	}
	loca, hasLoca := l["loca"]
	glyf, hasGlyf := l["glyf"]
	if !(hasLoca && hasGlyf) {
		return place{e: api.ErrNone}
	}
	all := ends(loca, m.Long)
	next := big.NewInt(int64(glyph))
	if next.Add(next, big.NewInt(1)).Cmp(big.NewInt(int64(len(all)))) >= 0 {
		return place{e: api.ErrShort}
	}
	from, to := all[glyph], all[glyph+1]
	if from > to || to > uint64(len(glyf)) {
		return place{e: api.ErrForm}
	}
	return place{from: int(from), to: int(to)}
}

// ends answers what all whole entries tell.
func ends(loca []byte, long bool) []uint64 {
	var all []uint64
	if long {
		list := make([]uint32, len(loca)/4)
		binary.Read(bytes.NewReader(loca), binary.BigEndian, list)
		for _, n := range list {
			all = append(all, uint64(n))
		}
		return all
	}
	list := make([]uint16, len(loca)/2)
	binary.Read(bytes.NewReader(loca), binary.BigEndian, list)
	for _, n := range list {
		all = append(all, uint64(n)+uint64(n))
	}
	return all
}

// holdRead holds Read of a font of these tables, twice.
func holdRead(t *testing.T, what string, l tables, want metric.Metric, code api.Errno) {
	t.Helper()
	f := font(t, l)
	for range 2 {
		got, e := metric.Read(f)
		if e != code {
			t.Fatalf("15.1: Read: %s: error %d, not %d", what, e, code)
		}
		if e != api.OK && got != (metric.Metric{}) {
			t.Fatalf("R3: Read: %s: %+v beside error %d", what, got, e)
		}
		if got != want {
			t.Fatalf("15.1: Read: %s: %+v, not %+v", what, got, want)
		}
	}
}

// wrongRead holds Read's error.
func wrongRead(t *testing.T, what string, l tables, code api.Errno) {
	t.Helper()
	holdRead(t, what, l, metric.Metric{}, code)
}

// holdRange holds Range of a font, twice.
func holdRange(t *testing.T, what string, f *sfnt.Font, m metric.Metric, glyph int, want place) {
	t.Helper()
	for range 2 {
		from, to, e := metric.Range(f, m, glyph)
		if e != want.e {
			t.Fatalf("15.1: Range: %s: glyph %d of %+v: error %d, not %d", what, glyph, m, e, want.e)
		}
		if e != api.OK && (from != 0 || to != 0) {
			t.Fatalf("R3: Range: %s: glyph %d of %+v: %d to %d beside error %d", what, glyph, m, from, to, e)
		}
		if from != want.from || to != want.to {
			t.Fatalf("15.1: Range: %s: glyph %d of %+v: %d to %d, not %d to %d", what, glyph, m, from, to, want.from, want.to)
		}
	}
}
