package glyf_test

import (
	"bytes"
	"slices"
	"testing"

	"versal/api"
	"versal/glyf"
	"versal/metric"
	"versal/sample"
	"versal/sfnt"
)

// R2: neither the bytes that a font was opened of, what lies about them
// included, nor what the font tells is changed by a call, also beside an error.
func TestChangesNothing(t *testing.T) {
	for seed := range 500 {
		pick := sample.Source(seed)
		glyphs := someFont(pick)
		for range pick(3) {
			turn(glyphs, pick)
		}
		l := sample.Glyphs(glyphs...)
		b := sample.File(l)
		whole := slices.Concat(sample.Bytes(9, 1), b, sample.Bytes(90, 2))
		before := bytes.Clone(whole)
		f, e := sfnt.Open(whole[9 : 9+len(b)])
		if e != api.OK {
			t.Fatalf("error %d", e)
		}
		for glyph := range len(glyphs) + 1 {
			glyf.Outline(f, metric.Metric{Glyphs: len(glyphs), Long: true}, glyph)
		}
		if !bytes.Equal(whole, before) {
			t.Errorf("R2: the bytes were changed")
		}
		for tag, want := range l {
			if got, ok := f.Table(tag); !ok || !bytes.Equal(got, want) {
				t.Errorf("R2: table %s was changed", tag)
			}
		}
	}
}

// spoil changes all of an outline, the spare room of its lists too.
func spoil(l outline) {
	l = l[:cap(l)]
	for k, contour := range l {
		contour = contour[:cap(contour)]
		for j := range contour {
			contour[j] = off(-12345, 12345)
		}
		l[k] = nil
	}
}

// R2: what was answered ahead may be turned, its spare room included, and
// changes nothing.
func TestAnswersMayBeTurned(t *testing.T) {
	f, m := of(t, plain(1, 1, 2), plain(2, 2), hook)
	for glyph := range 3 {
		want, _ := expected(f, m, glyph)
		for range 3 {
			got, e := glyf.Outline(f, m, glyph)
			if e != api.OK || !same(got, want) {
				t.Fatalf("R2: glyph %d: error %d, %v, not %v", glyph, e, got, want)
			}
			spoil(got)
		}
	}
}

// R2: no two contours of an answer share memory, spare room included, those of
// one glyph and those of components that are the same glyph.
func TestContoursApart(t *testing.T) {
	f, m := of(t, plain(1, 1, 2), plain(2, 3), hook, simple([]int{0, 1, 2, 5}, 0, []byte{0x39, 5}))
	for glyph := range 4 {
		want, _ := expected(f, m, glyph)
		for k := range want {
			got, _ := glyf.Outline(f, m, glyph)
			room := got[k][:cap(got[k])]
			for j := range room {
				room[j] = off(-12345, 12345)
			}
			got[k] = append(got[k], room...)
			for j := range got {
				if j != k && !slices.Equal(got[j], want[j]) {
					t.Errorf("R2: glyph %d: contours %d and %d share memory", glyph, j, k)
				}
			}
		}
	}
}

// R2: what Lay is given is left as it was, its spare room included, and what
// it answers is its own.
func TestLayChangesNothing(t *testing.T) {
	for seed := range 500 {
		pick := sample.Source(seed)
		l := someContours(pick)
		if pick(3) == 0 {
			l[pick(len(l))][0].X = 40000
		}
		given := make(outline, 0, len(l)+3)
		for _, contour := range l {
			room := slices.Concat(contour, []api.Point{on(77, 78), off(79, 80)})
			given = append(given, room[:len(contour)])
		}
		copy(given[len(l):cap(given)], outline{{on(1, 2)}, {on(3, 4)}, nil})
		want, code := expectedLay(l)
		for range 2 {
			b, e := glyf.Lay(given)
			if e != code || !bytes.Equal(b, want) {
				t.Fatalf("R2: error %d, %x, not %d, %x", e, b, code, want)
			}
			b = b[:cap(b)]
			for k := range b {
				b[k] ^= 0xff
			}
		}
		if !same(given, l) || !same(given[len(l):cap(given)], outline{{on(1, 2)}, {on(3, 4)}, nil}) {
			t.Fatal("R2: the contours were changed")
		}
		for _, contour := range given {
			if !slices.Equal(contour[len(contour):len(contour)+2], []api.Point{on(77, 78), off(79, 80)}) {
				t.Fatal("R2: the spare room was changed")
			}
		}
	}
}

// R2, R4: calls ahead of it, of this font and of others, tell nothing of what
// a call answers, those that ended in an error or that used up what there is
// among them.
func TestSameEachTime(t *testing.T) {
	tired, n := of(t, plain(many(1, 1000)...), nil, plain(3, 3), dots(300), plain(4))
	for seed := range 60 {
		f, m := of(t, someFont(sample.Source(seed))...)
		for _, glyph := range []int{0, 3, 1, 0, -1, 2} {
			for k := range n.Glyphs {
				glyf.Outline(tired, n, k)
			}
			want, e := expected(f, m, glyph)
			hold(t, "R4", "behind others", f, m, glyph, want, e)
		}
	}
}

// R4, R7: several goroutines may have a font each.
func TestApart(t *testing.T) {
	const workers, rounds = 8, 100
	var fonts []*sfnt.Font
	var metrics []metric.Metric
	for seed := range workers * rounds {
		f, m := of(t, someFont(sample.Source(seed))...)
		fonts, metrics = append(fonts, f), append(metrics, m)
	}
	told := make(chan bool)
	for g := range workers {
		go func() {
			fine := true
			for k := g * rounds; k < (g+1)*rounds; k++ {
				for glyph := range metrics[k].Glyphs {
					want, code := expected(fonts[k], metrics[k], glyph)
					got, e := glyf.Outline(fonts[k], metrics[k], glyph)
					b, laid := glyf.Lay(got)
					again, other := expectedLay(got)
					fine = fine && e == code && same(got, want) && laid == other && bytes.Equal(b, again)
				}
			}
			told <- fine
		}()
	}
	for range workers {
		if !<-told {
			t.Error("R4: otherwise beside others")
		}
	}
}
