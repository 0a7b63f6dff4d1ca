package png_test

import (
	"slices"
	"strconv"
	"testing"

	"versal/api"
	"versal/sample"
)

// 11.2: PLTE of each type, each depth and each length: none of types 0 and 4;
// of type 3 no more entries than its depth can tell.
func TestPaletteLengths(t *testing.T) {
	for _, f := range forms() {
		p := painted(f, size{2, 2}, 3, 1)
		lines := p.lines(false, 0, "0")
		for n := range 780 {
			if n > 60 && n < 760 && n%19 > 3 {
				continue
			}
			body := sample.Bytes(n, n)
			b := p.file(false, lines, chunk("PLTE", body...))
			fine := f.kind != 0 && f.kind != 4 && n > 0 && n%3 == 0 && n <= 768
			if f.kind == 3 && n > 3<<f.depth {
				fine = false
			}
			what := p.named() + ", a palette of " + strconv.Itoa(n)
			if fine {
				is(t, what, b, p.image(body))
			} else {
				fails(t, what, b, api.ErrForm)
			}
		}
	}
}

// 11.2: PLTE behind IDAT, and twice.
func TestPaletteOnce(t *testing.T) {
	plte := chunk("PLTE", 1, 2, 3)
	for _, f := range []form{{2, 8}, {6, 8}, {3, 8}, {2, 16}, {6, 16}, {3, 1}} {
		p := painted(f, size{1, 1}, 3, 1)
		head, data := ihdr(1, 1, f.depth, f.kind, 0), idat(p.lines(false, 0, "0")...)
		want := p.image([]byte{1, 2, 3})
		is(t, "once", file(head, plte, data, iend()), want)
		is(t, "behind others", file(head, chunk("abcd"), plte, chunk("abcd"), data, iend()), want)
		fails(t, "twice", file(head, plte, plte, data, iend()), api.ErrForm)
		fails(t, "twice, unlike", file(head, plte, chunk("abcd"), chunk("PLTE", 4, 5, 6), data, iend()), api.ErrForm)
		fails(t, "behind IDAT", file(head, data, plte, iend()), api.ErrForm)
		fails(t, "behind an IDAT of none", file(head, chunk("IDAT"), plte, data, iend()), api.ErrForm)
		fails(t, "ahead and behind", file(head, plte, data, plte, iend()), api.ErrForm)
	}
}

// 11.2: IDAT of type 3 without PLTE; the other types need none.
func TestWithoutPalette(t *testing.T) {
	for _, f := range forms() {
		p := painted(f, size{2, 1}, 3, 1)
		for _, laced := range []bool{false, true} {
			b := p.file(laced, p.lines(laced, 0, "0"))
			if f.kind == 3 {
				fails(t, p.named(), b, api.ErrForm)
				fails(t, p.named()+", an IDAT of none alone", file(ihdr(2, 1, f.depth, 3, 0), chunk("IDAT")), api.ErrForm)
				fails(t, p.named()+", no IDAT", file(ihdr(2, 1, f.depth, 3, 0), iend()), api.ErrForm)
			} else {
				is(t, p.named(), b, p.image(nil))
			}
		}
	}
}

// 11.2: each index is the palette's entry; an index that it has not is none,
// wherever it stands, but not in the bits that are left over.
func TestIndices(t *testing.T) {
	for _, depth := range []int{1, 2, 4, 8} {
		all := 1 << depth
		for _, entries := range slices.Compact([]int{1, 2, all/2 + 1, all - 1, all}) {
			if entries > all || entries == 0 {
				continue
			}
			palette := sample.Bytes(3*entries, entries)
			plte := chunk("PLTE", palette...)
			p := painted(form{3, depth}, size{9, 5}, entries, entries)
			for _, laced := range []bool{false, true} {
				is(t, p.named(), p.file(laced, p.lines(laced, 5, "1"), plte), p.image(palette))
				for at := range p.raw {
					was := p.raw[at][0]
					for _, n := range []int{entries - 1, entries, all - 1} {
						p.raw[at][0] = n
						b := p.file(laced, p.lines(laced, 4, "1"), plte)
						switch {
						case n < entries:
							is(t, p.named(), b, p.image(palette))
						case n < all:
							fails(t, p.named()+", an index that it has not", b, api.ErrForm)
						}
					}
					p.raw[at][0] = was
				}
			}
		}
	}
}

// 11.2: tRNS of each type with each length; of type 3 no more than its entries.
func TestClearLengths(t *testing.T) {
	for _, f := range forms() {
		p := painted(f, size{2, 2}, 3, 1)
		lines := p.lines(false, 0, "0")
		entries := min(5, 1<<f.depth)
		var ahead [][]byte
		if f.kind == 2 || f.kind == 3 || f.kind == 6 {
			ahead = append(ahead, chunk("PLTE", sample.Bytes(3*entries, 1)...))
		}
		for n := range 20 {
			b := p.file(false, lines, append(slices.Clone(ahead), chunk("tRNS", sample.Bytes(n, n)...))...)
			fine := f.kind == 0 && n == 2 || f.kind == 2 && n == 6 || f.kind == 3 && n <= entries
			what := p.named() + ", a tRNS of " + strconv.Itoa(n)
			if fine {
				if e := holdExpected(t, what, b); e != api.OK {
					t.Errorf("11.2: %s: refused, %d", what, e)
				}
			} else {
				fails(t, what, b, api.ErrForm)
			}
		}
		fails(t, p.named()+", a tRNS of 256", p.file(false, lines, append(ahead, chunk("tRNS", sample.Bytes(256, 1)...))...), api.ErrForm)
	}
	p := painted(form{3, 8}, size{16, 16}, 3, 0)
	plte := chunk("PLTE", sample.Bytes(768, 1)...)
	both(t, "256 alphas", p.file(false, p.lines(false, 0, "0"), plte, chunk("tRNS", sample.Bytes(256, 2)...)))
	fails(t, "257 alphas", p.file(false, p.lines(false, 0, "0"), plte, chunk("tRNS", sample.Bytes(257, 2)...)), api.ErrForm)
}

// 11.2: tRNS behind IDAT, twice, of type 3 ahead of PLTE; of type 2 it may
// stand ahead of it.
func TestClearOnce(t *testing.T) {
	plte := chunk("PLTE", 1, 2, 3)
	for _, c := range []struct {
		f    form
		trns []byte
		pre  [][]byte
	}{
		{form{0, 8}, chunk("tRNS", 0, 1), nil}, {form{2, 8}, chunk("tRNS", 0, 1, 0, 2, 0, 3), nil},
		{form{3, 8}, chunk("tRNS", 7), [][]byte{plte}}, {form{3, 8}, chunk("tRNS"), [][]byte{plte}},
	} {
		p := painted(c.f, size{1, 1}, 3, 1)
		pre, data := slices.Concat(c.pre...), idat(p.lines(false, 0, "0")...)
		head := slices.Concat(ihdr(1, 1, c.f.depth, c.f.kind, 0), pre)
		if e := holdExpected(t, "once", file(head, c.trns, data, iend())); e != api.OK {
			t.Errorf("11.2: %s: a tRNS is refused, %d", p.named(), e)
		}
		fails(t, "twice", file(head, c.trns, c.trns, data, iend()), api.ErrForm)
		fails(t, "twice, others between", file(head, c.trns, chunk("abcd"), c.trns, data, iend()), api.ErrForm)
		fails(t, "behind IDAT", file(head, data, c.trns, iend()), api.ErrForm)
		fails(t, "behind an IDAT of none", file(head, chunk("IDAT"), c.trns, data, iend()), api.ErrForm)
		fails(t, "ahead and behind", file(head, c.trns, data, c.trns, iend()), api.ErrForm)
	}
	indexed := painted(form{3, 8}, size{1, 1}, 3, 1)
	for _, body := range [][]byte{nil, {1}, {1, 2}} {
		b := indexed.file(false, indexed.lines(false, 0, "0"), chunk("tRNS", body...), plte)
		fails(t, "ahead of PLTE", b, api.ErrForm)
		fails(t, "without PLTE", indexed.file(false, indexed.lines(false, 0, "0"), chunk("tRNS", body...)), api.ErrForm)
	}
	colours := painted(form{2, 8}, size{1, 1}, 3, 1)
	b := colours.file(false, colours.lines(false, 0, "0"), chunk("tRNS", 0, 0, 0, 0, 0, 0), plte)
	is(t, "of type 2 ahead of PLTE", b, api.Image{W: 1, H: 1, Pix: []api.Pixel{one(0, 0, 0, 0)}})
}

// 11.2: of type 3 the alpha of the palette's first entries; 255 of the others.
func TestAlphas(t *testing.T) {
	for _, depth := range []int{1, 2, 4, 8} {
		all := 1 << depth
		palette, alphas := sample.Bytes(3*all, 1), sample.Bytes(all, 2)
		for n := range all + 1 {
			if n > 20 && n < all-2 {
				continue
			}
			p := painted(form{3, depth}, size{16, 16}, n, 0)
			want := p.image(palette)
			for k, raw := range p.raw {
				if raw[0] < n {
					want.Pix[k].A = int(alphas[raw[0]])
				}
			}
			b := p.file(n%2 == 1, p.lines(n%2 == 1, 5, "0"), chunk("PLTE", palette...), chunk("tRNS", alphas[:n]...))
			is(t, p.named()+", alphas of "+strconv.Itoa(n), b, want)
			both(t, p.named(), b)
		}
	}
}

// 11.2: of types 0 and 2 the alpha is 0 where the sample, or all three, are
// tRNS's, all bits of them as they stood.
func TestClear(t *testing.T) {
	for _, f := range []form{{0, 1}, {0, 2}, {0, 4}, {0, 8}, {0, 16}, {2, 8}, {2, 16}} {
		p := painted(f, size{9, 7}, 5, min(3, 1<<f.depth))
		for _, chosen := range []int{0, 1, 30, 62} {
			raw := p.raw[chosen]
			var body []byte
			for _, n := range raw {
				body = append(body, byte(n>>8), byte(n))
			}
			want := p.image(nil)
			for k := range want.Pix {
				if slices.Equal(p.raw[k], raw) {
					want.Pix[k].A = 0
				}
			}
			for _, laced := range []bool{false, true} {
				b := p.file(laced, p.lines(laced, 5, "1"), chunk("tRNS", body...))
				is(t, p.named()+", clear", b, want)
				both(t, p.named()+", clear", b)
			}
			for at := range body {
				for bit := range 8 {
					turned := slices.Clone(body)
					turned[at] ^= 1 << bit
					b := p.file(false, p.lines(false, 0, "0"), chunk("tRNS", turned...))
					if e := holdExpected(t, p.named()+", a bit of what is clear turned", b); e != api.OK {
						t.Errorf("11.2: %s: refused, %d", p.named(), e)
					}
				}
			}
		}
	}
}

// 11.2: two samples of 16 bits that are shown alike are not the same; a number
// of tRNS that a small sample cannot be is none's.
func TestClearByAllBits(t *testing.T) {
	for low := range 256 {
		p := picture{form: form{0, 16}, size: size{2, 1}, raw: [][]int{{7<<8 | low}, {7<<8 | low ^ 1}}}
		b := p.file(false, p.lines(false, 0, "0"), chunk("tRNS", 7, byte(low)))
		is(t, "one that is shown alike", b, api.Image{W: 2, H: 1, Pix: []api.Pixel{one(7, 7, 7, 0), one(7, 7, 7, 255)}})
	}
	for k := range 3 {
		p := picture{form: form{2, 16}, size: size{2, 1}, raw: [][]int{{257, 258, 259}, {257, 258, 259}}}
		p.raw[1][k]++
		b := p.file(false, p.lines(false, 0, "0"), chunk("tRNS", 1, 1, 1, 2, 1, 3))
		is(t, "two of three", b, api.Image{W: 2, H: 1, Pix: []api.Pixel{one(1, 1, 1, 0), one(1, 1, 1, 255)}})
	}
	for _, f := range []form{{0, 1}, {0, 2}, {0, 4}, {0, 8}} {
		p := painted(f, size{8, 8}, 3, 0)
		for n := 1 << f.depth; n < 1<<16; n = n*2 + 1 {
			b := p.file(false, p.lines(false, 0, "0"), chunk("tRNS", byte(n>>8), byte(n)))
			is(t, p.named()+", none that is clear", b, p.image(nil))
		}
	}
	p := painted(form{2, 8}, size{8, 8}, 3, 2)
	for k := range 3 {
		body := make([]byte, 6)
		body[2*k] = 1
		is(t, "none that is clear", p.file(false, p.lines(false, 0, "0"), chunk("tRNS", body...)), p.image(nil))
	}
}
