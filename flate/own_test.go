package flate_test

import (
	"math/bits"
	"slices"
	"strconv"
	"testing"

	"versal/api"
	"versal/sample"
)

// shortOrder is RFC 1951's order of the lengths' codes (3.2.7).
var shortOrder = []int{16, 17, 18, 0, 8, 7, 9, 6, 10, 5, 11, 4, 12, 3, 13, 2, 14, 1, 15}

// full is a code of all nineteen: those up to 12 have four bits, the others
// five.
var full = map[int]int{
	0: 4, 1: 4, 2: 4, 3: 4, 4: 4, 5: 4, 6: 4, 7: 4, 8: 4, 9: 4, 10: 4, 11: 4, 12: 4,
	13: 5, 14: 5, 15: 5, 16: 5, 17: 5, 18: 5,
}

// even answers lengths of a whole code of count symbols, 2 or more, all as
// near to one another as can be.
func even(count int) []int {
	long := bits.Len(uint(count - 1))
	lengths := make([]int, count)
	for k := range lengths {
		lengths[k] = long
		if k < 1<<long-count {
			lengths[k]--
		}
	}
	return lengths
}

// chain answers lengths of a whole code in which each of these (rising) is.
func chain(rising ...int) []int {
	var lengths []int
	before := 0
	for k, n := range rising {
		count := 1<<(n-before) - 1
		if k == len(rising)-1 {
			count++
		}
		for range count {
			lengths = append(lengths, n)
		}
		before = n
	}
	return lengths
}

// at answers a list of so many lengths, all 0 but some.
func at(count int, some map[int]int) []int {
	lengths := make([]int, count)
	for k, n := range some {
		lengths[k] = n
	}
	return lengths
}

// teller writes a block's lengths by a code of them.
type teller struct {
	*writer
	words []string
}

// own adds the head of a block of kind 2, up to the lengths' codes, of which
// all nineteen are told.
func (w *writer) own(last, literals, distances int, short map[int]int) *teller {
	w.head(last, 2).counts(literals, distances, 19)
	for _, k := range shortOrder {
		w.number(short[k], 3)
	}
	return &teller{w, words(at(19, short))}
}

// lengths adds them one by one.
func (w *teller) lengths(lengths ...int) *teller {
	for _, n := range lengths {
		w.word(w.words[n])
	}
	return w
}

// repeat adds symbol 16, 17 or 18, times over.
func (w *teller) repeat(symbol, times int) *teller {
	w.word(w.words[symbol])
	switch symbol {
	case 16:
		w.number(times-3, 2)
	case 17:
		w.number(times-3, 3)
	case 18:
		w.number(times-11, 7)
	}
	return w
}

// zeros adds so many lengths of 0, by 18 as far as it goes.
func (w *teller) zeros(count int) *teller {
	for count >= 11 {
		times := min(count, 138)
		w.repeat(18, times)
		count -= times
	}
	return w.lengths(make([]int, count)...)
}

// block adds a whole head of a block that has these lengths.
func (w *writer) block(last int, literals, distances []int) *writer {
	return w.own(last, len(literals), len(distances), full).lengths(literals...).lengths(distances...).writer
}

// everywhere builds a stream at each of the eight places of a byte, behind a
// block of literals, so that its end comes to lie at each of them too.
func everywhere(build func(w *writer), check func(w *writer, ahead string)) {
	ahead := ""
	for range 8 {
		w := begin(0, 1)
		for k := range len(ahead) {
			w.fixed(int(ahead[k]))
		}
		w.fixed(256)
		build(w)
		check(w, ahead)
		ahead += "\xc8"
	}
}

// fineEverywhere holds a stream that is in order at each place of a byte.
func fineEverywhere(t *testing.T, what string, want string, build func(w *writer)) {
	t.Helper()
	everywhere(build, func(w *writer, ahead string) {
		t.Helper()
		fine(t, what, w, ahead+want)
	})
}

// wrongEverywhere holds a stream that is wrong with its last bit, at each
// place of a byte: at one of them no bit is left behind it.
func wrongEverywhere(t *testing.T, what string, code api.Errno, build func(w *writer)) {
	t.Helper()
	everywhere(build, func(w *writer, ahead string) {
		t.Helper()
		wrong(t, what, w, code)
	})
}

// abc is literals of a, b and the end: 10, 11 and 0.
func abc() []int { return at(257, map[int]int{'a': 2, 'b': 2, 256: 1}) }

// copies is literals of a, the end, and the lengths 3, 4 (257, 258) and 258:
// a: 00, 256: 01, 257: 10, 258: 110, 285: 111.
func copies() []int { return at(286, map[int]int{'a': 2, 256: 2, 257: 2, 258: 3, 285: 3}) }

// 8.1: blocks of kind 2, alone and several, of unlike codes.
func TestOwnBlocks(t *testing.T) {
	fineEverywhere(t, "of none", "", func(w *writer) { w.block(1, abc(), []int{0}).word("0") })
	fineEverywhere(t, "literals", "abba", func(w *writer) { w.block(1, abc(), []int{0}).word("10111110" + "0") })
	fineEverywhere(t, "copies", "aaaaaaaa", func(w *writer) { w.block(1, copies(), []int{1}).word("00" + "100" + "1100" + "01") })
	fineEverywhere(t, "two", "ab\x01\x02\x03", func(w *writer) {
		w.block(0, abc(), []int{1, 1}).word("10110")
		w.block(1, even(257), []int{0})
		own := words(even(257))
		w.word(own[1] + own[2] + own[3] + own[256])
	})
	fineEverywhere(t, "each kind", "abxyzab", func(w *writer) {
		w.block(0, abc(), []int{1}).word("10110").stored(0, []byte("x")).fixedBlock('y', 'z', 256)
		w.block(1, abc(), []int{0}).word("10110")
	})
	wrong(t, "codes of the block ahead", new(writer).block(0, abc(), []int{1}).word("0").head(1, 2).counts(257, 1, 4).short(0, 0, 0, 0), api.ErrForm)
}

// fixedBlock adds a block of kind 1 that isn't the last one.
func (w *writer) fixedBlock(symbols ...int) *writer { return w.head(0, 1).fixed(symbols...) }

// 8.1: each literal, length and distance by codes of their own, short and long.
func TestOwnSymbols(t *testing.T) {
	literals, distances := even(286), even(30)
	for k := range 2 {
		if k == 1 {
			// Symbols whose codes are long: all but a few have nine bits and more.
			literals = append(chain(7, 8, 9, 10, 11, 12, 13, 14, 15), make([]int, 150)...)[:286]
			slices.Reverse(literals)
			distances = append(chain(1, 2, 3, 4, 5, 6, 7, 8, 9, 10, 11, 12, 13, 14, 15), make([]int, 30)...)[:30]
		}
		near, far := words(literals), words(distances)
		text := string(sample.Bytes(32768, 31))
		w := new(writer).stored(0, []byte(text)).block(1, literals, distances)
		for x := range 256 {
			if near[x] != "" {
				w.word(near[x])
				text += string([]byte{byte(x)})
			}
		}
		for symbol, r := range lengthRows {
			for d, q := range distanceRows {
				if near[257+symbol] == "" || far[d] == "" {
					continue
				}
				w.word(near[257+symbol]).number(1<<r[1]-1, r[1]).word(far[d]).number(1<<q[1]-1, q[1])
				text = copyOf(text, r[0]+1<<r[1]-1, q[0]+1<<q[1]-1)
			}
		}
		w.word(near[256])
		fine(t, "each symbol", w, text)
	}
}

// 8.1: from 4 to 19 lengths of the lengths' codes are told, in their order.
func TestShortCounts(t *testing.T) {
	for count := 5; count <= 19; count++ {
		told := slices.Clone(shortOrder[4:count])
		slices.Sort(told)
		literals := append(make([]int, 257), chain(told...)...)
		literals = literals[len(literals)-257:]
		short := make(map[int]int)
		for k, n := range even(count - 3) {
			short[shortOrder[3+k]] = n
		}
		fineEverywhere(t, strconv.Itoa(count)+" told", "\xff\xfe", func(w *writer) {
			w.head(1, 2).counts(257, 1, count)
			for _, k := range shortOrder[:count] {
				w.number(short[k], 3)
			}
			tell := &teller{w, words(at(19, short))}
			tell.lengths(literals...).lengths(0)
			own := words(literals)
			w.word(own[255] + own[254] + own[256])
		})
	}
	// Of four, 16, 17, 18 and 0, no length comes but 0.
	wrongEverywhere(t, "4 told", api.ErrForm, func(w *writer) {
		w.head(1, 2).counts(257, 1, 4).short(0, 0, 1, 1)
		(&teller{w, words(at(19, map[int]int{18: 1, 0: 1}))}).zeros(258)
	})
}

// 8.1: 286 length codes and 30 of distances may be, and no more; all fourteen
// bits are taken first.
func TestHowMany(t *testing.T) {
	fineEverywhere(t, "286, 30", "a", func(w *writer) {
		w.block(1, at(286, map[int]int{'a': 1, 285: 2, 256: 2}), even(30)).word("0" + "10")
	})
	fineEverywhere(t, "257, 1", "a", func(w *writer) { w.block(1, abc(), []int{0}).word("100") })
	for short := 4; short <= 19; short++ {
		for _, x := range [][2]int{{287, 1}, {288, 1}, {287, 30}, {257, 31}, {257, 32}, {286, 31}, {287, 31}, {288, 32}} {
			wrongEverywhere(t, "too many are told", api.ErrForm, func(w *writer) { w.head(1, 2).counts(x[0], x[1], short) })
		}
	}
	everywhere(func(w *writer) { w.head(1, 2).counts(288, 32, 19) }, func(w *writer, ahead string) {
		b := laid(string(w.text[:len(w.text)-1]))
		if (len(w.text)-1)%8 == 0 {
			hold(t, "thirteen of the fourteen", b, 99, "", 0, api.ErrShort)
		}
		hold(t, "without a last byte", w.bytes()[:(len(w.text)-1)/8], 99, "", 0, api.ErrShort)
	})
}

// 8.1: a repeat's bits say how many.
func TestRepeats(t *testing.T) {
	for times := 3; times <= 10; times++ {
		fineEverywhere(t, "17", string([]byte{byte(times)}), func(w *writer) {
			w.own(1, 257, 1, full).repeat(17, times).lengths(1).zeros(255-times).lengths(1, 0).word("01")
		})
	}
	for times := 11; times <= 138; times++ {
		fineEverywhere(t, "18", string([]byte{byte(times)}), func(w *writer) {
			w.own(1, 257, 1, full).repeat(18, times).lengths(1).zeros(255-times).lengths(1, 0).word("01")
		})
	}
	// So many literals of three bits and one more, and what fills the rest.
	for times, rest := range map[int][]int{3: {0, 1}, 4: {2, 3}, 5: {0, 2}, 6: {0, 3}} {
		literals := append(slices.Repeat([]int{3}, times+1), make([]int, 256-times-2)...)
		literals = append(literals, rest...)
		own := words(literals)
		fineEverywhere(t, "16", string([]byte{byte(times), 0}), func(w *writer) {
			w.own(1, 257, 1, full).lengths(3).repeat(16, times).zeros(256 - times - 2).lengths(rest...).lengths(0)
			w.word(own[times] + own[0] + own[256])
		})
	}
	// What is ahead may be a 0, of 17, of 18 and of 16 itself.
	fineEverywhere(t, "16 behind others", "\x1a", func(w *writer) {
		w.own(1, 257, 1, full).repeat(17, 3).repeat(16, 3).repeat(16, 6).repeat(18, 11).repeat(16, 3)
		(&teller{w, words(at(19, full))}).lengths(1).zeros(229).lengths(1, 0).word("01")
	})
}

// 8.1: literals and distances are one list: a repeat may go over the border.
func TestOverTheBorder(t *testing.T) {
	literals := at(260, map[int]int{'a': 1, 256: 3, 257: 3, 258: 3, 259: 3})
	near := words(literals)
	for times := 3; times <= 6; times++ {
		// 256 is told, and then times over: three lengths, and distances.
		distances := slices.Repeat([]int{3}, 8)
		fineEverywhere(t, "16 over the border", "aaaaaaaaa", func(w *writer) {
			w.own(1, 260, 8, full).zeros('a').lengths(1).zeros(255-'a').lengths(3).repeat(16, times).lengths(distances[times-3:]...)
			w.word(near['a'] + near[258] + "000" + near[258] + "010" + near[256])
		})
	}
	fineEverywhere(t, "17 over the border", "ab", func(w *writer) {
		w.own(1, 260, 8, full).zeros('a').lengths(2, 2).zeros(256-'c').lengths(1).repeat(17, 9).lengths(1, 0)
		w.word("10110")
	})
	fineEverywhere(t, "18 over the border", "ab", func(w *writer) {
		w.own(1, 270, 8, full).zeros('a').lengths(2, 2).zeros(256-'c').lengths(1).repeat(18, 19).lengths(1, 0)
		w.word("10110")
	})
	// 16 takes the last literal's length for the first distance's.
	fineEverywhere(t, "16 at the border", "aaaa", func(w *writer) {
		w.own(1, 258, 4, full).zeros('a').lengths(1).zeros(256-'b').lengths(2, 2).repeat(16, 4)
		w.word("0" + "11" + "00" + "10")
	})
}

// 8.1: a repeat with nothing ahead of it is wrong with its code, whatever is
// behind; and one that goes beyond the end is.
func TestRepeatsThatAreWrong(t *testing.T) {
	wrongEverywhere(t, "16 first", api.ErrForm, func(w *writer) {
		tell := w.own(1, 257, 1, full)
		tell.word(tell.words[16])
	})
	wrongEverywhere(t, "16 first, and its bits", api.ErrForm, func(w *writer) { w.own(1, 257, 1, full).repeat(16, 3) })
	// The block ahead is not ahead.
	wrongEverywhere(t, "16 first in a second block", api.ErrForm, func(w *writer) {
		w.block(0, abc(), []int{1, 1}).word("0").own(1, 257, 1, full).repeat(16, 3)
	})
	for _, x := range []struct{ symbol, least, most int }{{16, 3, 6}, {17, 3, 10}, {18, 11, 138}} {
		for left := 1; left < 30; left++ {
			tell := func(w *writer, times int) *teller {
				w.own(1, 257, 30, full).zeros('a').lengths(2, 2).zeros(256 - 'c').lengths(1).zeros(30 - left)
				return (&teller{w, words(at(19, full))}).repeat(x.symbol, times)
			}
			if x.least <= left && left <= x.most {
				fineEverywhere(t, "just to the end", "ab", func(w *writer) { tell(w, left).word("10110") })
			}
			if x.least <= left+1 && left+1 <= x.most {
				wrongEverywhere(t, "one beyond the end", api.ErrForm, func(w *writer) { tell(w, left+1) })
			}
			if x.most > left {
				wrongEverywhere(t, "far beyond the end", api.ErrForm, func(w *writer) { tell(w, x.most) })
			}
		}
	}
}

// 8.1: there has to be a code of 256.
func TestNoEnd(t *testing.T) {
	for _, literals := range [][]int{at(257, map[int]int{'a': 1, 'b': 1}), at(257, map[int]int{'a': 1}), at(286, map[int]int{255: 1, 257: 1}), make([]int, 257)} {
		for _, distances := range [][]int{{0}, {1}, {1, 1}} {
			wrongEverywhere(t, "no end", api.ErrForm, func(w *writer) { w.block(1, literals, distances) })
		}
	}
}

// 8.1: codes that codes.New refuses: too many, too few, of each of the three.
func TestRefused(t *testing.T) {
	for _, literals := range []map[int]int{
		{256: 2}, {256: 15}, {256: 1, 'a': 2}, {256: 2, 'a': 2, 'b': 2}, {256: 1, 'a': 1, 'b': 1}, {256: 1, 'a': 1, 'b': 15}, {256: 3, 'a': 1, 'b': 2, 'c': 2},
	} {
		wrongEverywhere(t, "literals", api.ErrForm, func(w *writer) { w.block(1, at(257, literals), []int{1}) })
	}
	for _, distances := range [][]int{{2}, {15}, {0, 3}, {1, 2}, {1, 1, 1}, {2, 2, 2}, {1, 1, 15}} {
		wrongEverywhere(t, "distances", api.ErrForm, func(w *writer) { w.block(1, abc(), distances) })
	}
	for _, short := range [][]int{{2, 0, 0, 0}, {0, 0, 7, 0}, {1, 1, 1, 0}, {1, 1, 0, 7}, {1, 2, 0, 0}, {2, 2, 2, 0}, {7, 7, 7, 7}} {
		wrongEverywhere(t, "lengths", api.ErrForm, func(w *writer) { w.head(1, 2).counts(257, 1, 4).short(short...) })
	}
}

// 8.1: one code alone, of each of the three: a 0 is it, and a 1 is none, with
// that bit; where no bit is left it is short.
func TestOneAlone(t *testing.T) {
	end := at(257, map[int]int{256: 1})
	fineEverywhere(t, "256 alone", "", func(w *writer) { w.block(1, end, []int{0}).word("0") })
	wrongEverywhere(t, "256 alone, a 1", api.ErrForm, func(w *writer) { w.block(1, end, []int{0}).word("1") })
	fineEverywhere(t, "one distance", "aaaa", func(w *writer) { w.block(1, copies(), []int{1}).word("00" + "10" + "0" + "01") })
	wrongEverywhere(t, "one distance, a 1", api.ErrForm, func(w *writer) { w.block(1, copies(), []int{1}).word("00" + "10" + "1") })
	// The one need not be the first: the fourth is a distance of 4.
	fineEverywhere(t, "distance 4 alone", "aaaaaaa", func(w *writer) {
		w.block(1, copies(), []int{0, 0, 0, 1, 0, 0}).word("00000000" + "10" + "0" + "01")
	})
	wrong(t, "distance 4 alone, too far", new(writer).block(1, copies(), []int{0, 0, 0, 1, 0, 0}).word("000000"+"10"+"0"), api.ErrForm)
	wrongEverywhere(t, "18 alone, a 1", api.ErrForm, func(w *writer) { w.head(1, 2).counts(257, 1, 4).short(0, 0, 1, 0).word("1") })
	wrongEverywhere(t, "18 alone, a 1 later on", api.ErrForm, func(w *writer) {
		w.head(1, 2).counts(257, 1, 4).short(0, 0, 1, 0).word("0").number(127, 7).word("1")
	})
	wrongEverywhere(t, "18 alone, all 0", api.ErrForm, func(w *writer) {
		w.head(1, 2).counts(257, 1, 4).short(0, 0, 1, 0).word("0").number(127, 7).word("0").number(120-11, 7)
	})
	wrongEverywhere(t, "1 alone: too many", api.ErrForm, func(w *writer) { w.own(1, 257, 1, map[int]int{1: 1}).word("0").number(0, 257) })
	short := 0
	for _, build := range []func(w *writer){
		func(w *writer) { w.block(1, end, []int{0}) },
		func(w *writer) { w.block(1, copies(), []int{1}).word("00" + "10") },
		func(w *writer) { w.head(1, 2).counts(257, 1, 4).short(0, 0, 1, 0) },
	} {
		everywhere(build, func(w *writer, ahead string) {
			if len(w.text)%8 == 0 {
				hold(t, "no bit of one alone", w.bytes(), 99, "", 0, api.ErrShort)
				short++
			}
		})
	}
	if short != 3 {
		t.Errorf("%d streams ended with a byte", short)
	}
}

// 8.1: of codes without any none comes, at once: also where no bit is left.
func TestWithoutAny(t *testing.T) {
	wrongEverywhere(t, "no lengths", api.ErrForm, func(w *writer) { w.head(1, 2).counts(257, 1, 4).short(0, 0, 0, 0) })
	wrongEverywhere(t, "no lengths of 19", api.ErrForm, func(w *writer) { w.own(1, 286, 30, nil) })
	for _, distances := range [][]int{{0}, {0, 0}, make([]int, 30)} {
		wrongEverywhere(t, "no distances", api.ErrForm, func(w *writer) { w.block(1, copies(), distances).word("00" + "10") })
		wrongEverywhere(t, "no distances of 258", api.ErrForm, func(w *writer) { w.block(1, copies(), distances).word("00" + "111") })
		fineEverywhere(t, "no distances, no copies", "aa", func(w *writer) { w.block(1, copies(), distances).word("00" + "00" + "01") })
	}
	// A length's own bits come ahead of its distance.
	long := at(286, map[int]int{'a': 2, 256: 2, 284: 1})
	wrongEverywhere(t, "no distances, the length's bits", api.ErrForm, func(w *writer) { w.block(1, long, []int{0}).word("0").number(0, 5) })
	everywhere(func(w *writer) { w.block(1, long, []int{0}).word("0") }, func(w *writer, ahead string) {
		if -len(w.text)&7 < 5 {
			hold(t, "no distances, not all of the length's bits", w.bytes(), 999, "", 0, api.ErrShort)
		}
	})
}

// 8.1: most, by codes of their own.
func TestOwnMost(t *testing.T) {
	b := new(writer).block(0, copies(), []int{1}).word("00"+"100"+"01").block(1, abc(), []int{0}).word("11" + "0").bytes()
	for most := -1; most < 5; most++ {
		hold(t, "most "+strconv.Itoa(most), b, most, "", 0, api.ErrBig)
	}
	hold(t, "most 5", b, 5, "aaaab", len(b), api.OK)
	// The codes come ahead of what is too much, and what is too much ahead of
	// a code that is none.
	hold(t, "refused, most 0", new(writer).block(1, at(257, map[int]int{256: 2}), []int{0}).bytes(), 0, "", 0, api.ErrForm)
	hold(t, "too much, then none", new(writer).block(1, copies(), []int{0}).word("00"+"10").bytes(), 0, "", 0, api.ErrBig)
	hold(t, "none, no room", new(writer).block(1, copies(), []int{0}).word("00"+"10").bytes(), 1, "", 0, api.ErrForm)
}
