package metric_test

import (
	"bytes"
	"maps"
	"slices"
	"testing"

	"versal/api"
	"versal/metric"
	"versal/sample"
	"versal/sfnt"
)

// sane answers a font's tables, all that both calls ask.
func sane(m metric.Metric) tables {
	format := wide(m)/2 - 1
	return tables{"head": head(54, m.Units, format), "maxp": maxp(6, m.Glyphs), "loca": entries(m, 0, 4, 4, 10), "glyf": sample.Bytes(10, 1)}
}

// askAll calls Read and Range of all glyphs and of some that are none.
func askAll(f *sfnt.Font, m metric.Metric) {
	metric.Read(f)
	for glyph := -1; glyph < 5; glyph++ {
		metric.Range(f, m, glyph)
	}
}

// R2: neither the bytes that a font was opened of, what lies about them
// included, nor what the font tells is changed by a call, also beside an error.
func TestChangesNothing(t *testing.T) {
	for _, m := range kinds(3) {
		for _, l := range []tables{nil, sane(m), sane(m).without("maxp"), sane(m).with("loca", nil), sane(m).with("glyf", nil), sane(m).with("head", head(54, 0, 9))} {
			b := sample.File(l)
			whole := slices.Concat(sample.Bytes(9, 1), b, sample.Bytes(90, 2))
			before := bytes.Clone(whole)
			f, e := sfnt.Open(whole[9 : 9+len(b)])
			if e != api.OK {
				t.Fatalf("error %d", e)
			}
			askAll(f, m)
			if !bytes.Equal(whole, before) {
				t.Errorf("R2: the bytes were changed")
			}
			if !slices.Equal(f.Tags(), slices.Sorted(maps.Keys(l))) {
				t.Errorf("R2: the tags were changed")
			}
			for tag, want := range l {
				if got, ok := f.Table(tag); !ok || !bytes.Equal(got, want) {
					t.Errorf("R2: table %s was changed", tag)
				}
			}
		}
	}
}

// R2: what is told hangs on the font alone: tables that were answered ahead
// and are turned, their spare room included, change nothing.
func TestTablesMayBeTurned(t *testing.T) {
	for _, m := range kinds(3) {
		f := font(t, sane(m))
		for tag := range sane(m) {
			b, _ := f.Table(tag)
			room := b[:cap(b)]
			for k := range room {
				room[k] ^= 0xff
			}
		}
		if got, e := metric.Read(f); got != m || e != api.OK {
			t.Errorf("R2: %+v, error %d, not %+v", got, e, m)
		}
		for k, w := range []place{{to: 4}, {from: 4, to: 4}, {from: 4, to: 10}} {
			holdRange(t, "behind the turn", f, m, k, w)
		}
	}
}

// R2, R4: calls ahead of it, of this font and of others, tell nothing of what
// a call answers.
func TestSameEachTime(t *testing.T) {
	for seed := range 300 {
		l, m := some(seed)
		other, n := some(seed + 1)
		f, g := font(t, l), font(t, other)
		askAll(g, n)
		askAll(nil, n)
		askAll(f, n)
		want, code := expectedRead(l)
		if got, e := metric.Read(f); got != want || e != code {
			t.Fatalf("R4: %+v, error %d, not %+v, %d", got, e, want, code)
		}
		for _, glyph := range []int{4, 0, 2, 0, -1, 1} {
			askAll(g, n)
			holdRange(t, "behind others", f, m, glyph, expectedRange(l, m, glyph))
		}
	}
}

// R4, R7: several goroutines may have a font each.
func TestApart(t *testing.T) {
	const workers, rounds = 8, 200
	var fonts []*sfnt.Font
	for seed := range workers * rounds {
		l, _ := some(seed)
		fonts = append(fonts, font(t, l))
	}
	told := make(chan bool)
	for g := range workers {
		go func() {
			fine := true
			for k := range rounds {
				seed := g*rounds + k
				l, m := some(seed)
				got, e := metric.Read(fonts[seed])
				fine = fine && got == m && e == api.OK
				for glyph := range m.Glyphs {
					from, to, e := metric.Range(fonts[seed], m, glyph)
					fine = fine && place{from, to, e} == expectedRange(l, m, glyph)
				}
			}
			told <- fine
		}()
	}
	for range workers {
		if !<-told {
			t.Error("R4: otherwise beside others")
		}
	}
}
