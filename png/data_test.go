package png_test

import (
	"slices"
	"strconv"
	"testing"

	"versal/api"
	"versal/sample"
	"versal/zlib"
)

// 11.2: another chunk between two IDATs, whichever; between IHDR and the first,
// and behind the last, it may stand.
func TestBetweenIDATs(t *testing.T) {
	head, data, want := gray1()
	body := packed([]byte{0, 5})
	first, second := chunk("IDAT", body[:4]...), chunk("IDAT", body[4:]...)
	is(t, "side by side", file(head, first, second, iend()), want)
	for _, c := range [][]byte{chunk("abcd"), chunk("tEXt", 1, 2), chunk("iDAT"), chunk("tRNS", 0, 1), chunk("PLTE", 1, 2, 3), head, chunk("ABCD")} {
		fails(t, "between", file(head, first, c, second, iend()), api.ErrForm)
		fails(t, "between, an IDAT of none ahead", file(head, chunk("IDAT"), c, data, iend()), api.ErrForm)
		fails(t, "between, an IDAT of none behind", file(head, data, c, chunk("IDAT"), iend()), api.ErrForm)
		fails(t, "between, no end", file(head, first, c, second), api.ErrForm)
	}
	is(t, "ahead and behind", file(head, chunk("abcd"), first, second, chunk("abcd"), iend()), want)
}

// 11.2: the stream's own errors, those of zlib.Open.
func TestStreamErrors(t *testing.T) {
	head, _, want := gray1()
	good := zlib.Lay([]byte{0, 5})
	is(t, "good", file(head, chunk("IDAT", good...), iend()), want)
	for n := range good {
		fails(t, "cut at "+strconv.Itoa(n), file(head, chunk("IDAT", good[:n]...), iend()), api.ErrShort)
	}
	for k := len(good) - 4; k < len(good); k++ {
		turned := slices.Clone(good)
		turned[k] ^= 0x40
		fails(t, "another Adler", file(head, chunk("IDAT", turned...), iend()), api.ErrMark)
	}
	fails(t, "a byte behind it", file(head, chunk("IDAT", append(slices.Clone(good), 0)...), iend()), api.ErrForm)
	fails(t, "a byte behind it, in another IDAT", file(head, chunk("IDAT", good...), chunk("IDAT", 0), iend()), api.ErrForm)
	fails(t, "another method", file(head, chunk("IDAT", append([]byte{0x79, 0x18}, good[2:]...)...), iend()), api.ErrForm)
	fails(t, "a dictionary", file(head, chunk("IDAT", append([]byte{0x78, 0x20}, good[2:]...)...), iend()), api.ErrForm)
	fails(t, "a block of kind 3", file(head, chunk("IDAT", 0x78, 0x01, 0x07), iend()), api.ErrForm)
	fails(t, "two streams", file(head, chunk("IDAT", good...), chunk("IDAT", good...), iend()), api.ErrForm)
}

// 11.2: most is just as many bytes as the lines take: one more is ErrBig, one
// fewer is ErrForm, of each form with and without interlace.
func TestHowManyBytes(t *testing.T) {
	for _, f := range forms() {
		for _, s := range []size{{1, 1}, {2, 1}, {1, 2}, {5, 5}, {8, 8}, {9, 3}, {17, 11}} {
			for _, laced := range []bool{false, true} {
				p := painted(f, s, 3, 0)
				palette, behind := p.plte()
				lines := p.lines(laced, 5, "0")
				is(t, p.named(), p.file(laced, lines, behind...), p.image(palette))
				for _, more := range []int{1, 2, 1000} {
					b := p.file(laced, append(slices.Clone(lines), make([]byte, more)...), behind...)
					fails(t, p.named()+", too many", b, api.ErrBig)
				}
				for _, n := range []int{0, 1, len(lines) / 2, len(lines) - 1} {
					fails(t, p.named()+", too few", p.file(laced, lines[:n], behind...), api.ErrForm)
				}
			}
		}
	}
	tall := painted(form{0, 8}, size{3, 4}, 3, 0)
	fails(t, "no filters' bytes", tall.file(false, sample.Bytes(12, 1)), api.ErrForm)
	fails(t, "laced lines in a file without", tall.file(false, tall.lines(true, 0, "0")), api.ErrBig)
	fails(t, "lines without in a laced file", tall.file(true, tall.lines(false, 0, "0")), api.ErrForm)
}

// 11.2: of too many bytes the first ones' other faults are not told; of a wrong
// sum and too few bytes the sum is named first.
func TestStreamOrder(t *testing.T) {
	head, _, _ := gray1()
	fails(t, "too many, a filter of 5", file(head, idat(5, 1, 2), iend()), api.ErrBig)
	fails(t, "too few, a filter of 5", file(head, idat(5), iend()), api.ErrForm)
	few := zlib.Lay([]byte{0})
	few[len(few)-1] ^= 1
	fails(t, "too few, another Adler", file(head, chunk("IDAT", few...), iend()), api.ErrMark)
	wrong := zlib.Lay([]byte{5, 1})
	wrong[len(wrong)-1] ^= 1
	fails(t, "a filter of 5, another Adler", file(head, chunk("IDAT", wrong...), iend()), api.ErrMark)
	many := zlib.Lay([]byte{0, 1, 2})
	many[len(many)-1] ^= 1
	fails(t, "too many, another Adler", file(head, chunk("IDAT", many...), iend()), api.ErrBig)
	fails(t, "too many, cut off", file(head, chunk("IDAT", many[:len(many)-4]...), iend()), api.ErrBig)
	indexed := ihdr(1, 1, 8, 3, 0)
	plte := chunk("PLTE", 1, 2, 3)
	none := zlib.Lay([]byte{0, 9})
	fails(t, "an index that it has not", file(indexed, plte, chunk("IDAT", none...), iend()), api.ErrForm)
	none[len(none)-1] ^= 1
	fails(t, "an index that it has not, another Adler", file(indexed, plte, chunk("IDAT", none...), iend()), api.ErrMark)
}

// 11.2: a filter that is none of 0 to 4, in each line of each pass.
func TestOtherFilters(t *testing.T) {
	for _, f := range []form{{0, 1}, {0, 8}, {2, 8}, {6, 16}, {3, 4}} {
		for _, laced := range []bool{false, true} {
			p := painted(f, size{9, 9}, 3, 0)
			palette, behind := p.plte()
			lines := p.lines(laced, 0, "0")
			is(t, p.named(), p.file(laced, lines, behind...), p.image(palette))
			at := 0
			for _, pass := range ways(p.w, p.h, laced) {
				for _, places := range pass {
					for _, kind := range []byte{5, 6, 127, 128, 255} {
						turned := slices.Clone(lines)
						turned[at] = kind
						fails(t, p.named()+", filter "+strconv.Itoa(int(kind)), p.file(laced, turned, behind...), api.ErrForm)
					}
					at += 1 + (len(places)*f.depth*channels(f.kind)+7)/8
				}
			}
		}
	}
	for x := range 256 {
		holdExpected(t, "each filter", file(ihdr(2, 1, 8, 0, 0), idat(byte(x), 5, 6), iend()))
	}
}

// 11.2: any lines at all, of each filter: sums go round within a byte.
func TestAnyLines(t *testing.T) {
	for _, f := range forms() {
		for seed := range 12 {
			s := size{1 + seed*5%23, 1 + seed*7%19}
			p := picture{form: f, size: s}
			_, behind := p.plte()
			for _, laced := range []bool{false, true} {
				var lines []byte
				for _, pass := range ways(s.w, s.h, laced) {
					for y, places := range pass {
						lines = append(lines, byte((y+seed)%5))
						lines = append(lines, sample.Bytes((len(places)*f.depth*channels(f.kind)+7)/8, seed*100+y)...)
					}
				}
				both(t, p.named(), p.file(laced, lines, behind...))
			}
		}
	}
}
